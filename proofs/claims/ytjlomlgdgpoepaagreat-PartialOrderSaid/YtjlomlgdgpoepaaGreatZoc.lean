import Derived.Test.YtjlomlgdgpoepaaGreatZob
set_option linter.unusedVariables false
set_option linter.unusedSimpArgs false
namespace Go.Proofs.YtjlomlgdgpoepaaGreat
open Gv renaming AH→DJ,Part→Ie,aG→aL,cx→b5,drop→wI,ef→eK,find→iO,first→kT,gj→g9,has→zb,jT→Lm,kI→lX,last→kf,lk→bu,look→j3,mr→lD,nextIdx→vU,one→n7,pT→tN,put→tX,seen→If
open Gv.Node renaming all→bw,e→b6,h→cw,mk→fH
open Gv.PM renaming cY→g_,cap→iv,dG→dR,free→dY,held→fW,live→e7,vs→cI
open Gv.Part renaming mk→mJ,n→bP,sum→bH
open Gv.Ref renaming mk→aO
open Gv.iX renaming sum→Jo
open Rx renaming Ends→cj
open Ti renaming Hl→WY,So→WZ,q8→xH
open Ti.Td renaming l→pJ,mk→ja,n→pH,plus→QJ,s→pI
open Wv.It renaming mk→cX
open _root_.And renaming intro→cZ
open _root_.Array renaming mk→aP,toList→dw
open _root_.Bool renaming and_false→vg,false→an,true_and→js,true→ao
open _root_.Go.Addr renaming mk→Se
open _root_.Go.Func renaming results→dx
open _root_.Go.IntKind renaming i64→ar,wrap→ck
open _root_.Go.Value renaming agg→bG,bool→aE,int→bk,pointer→aC,slice→br,tuple→cr
open _root_.Iff renaming rfl→sD
open _root_.Int renaming lt_trichotomy→rZ,toNat_natCast→iS,toNat→aD
open _root_.List renaming cons_append→mI,dropWhile_cons→th,drop_zero→sG,filter_append→mB,getD_eq_getElem?_getD→au,getD→aB,getElem?_cons_zero→cf,getElem?_map→fu,length_append→bE,length_cons→cy,length_filter_le→rD,length_map→fZ,length_nil→jX,length_set→fh,length_take→ej,length→ae,map_append→dM,map_cons→gC,map_set→FW,map→aw,mem_append→bY,mem_cons_of_mem→dX,mem_cons_self→bL,mem_cons→bN,mem_map→px,nil_append→pz,nodup_append→ch,nodup_cons→fP,nodup_nil→Sd,pairwise_append→nX,pairwise_cons→fL,perm_middle→zF,set→qv,takeWhile_append_dropWhile→AG,takeWhile_cons→te
open _root_.List.Pairwise renaming nil→r9
open _root_.List.Sublist renaming append_left→W0,nodup→adn
open _root_.Nat renaming beq→fj,le_log2→XJ,le_refl→a_,le_succ→kZ,le_trans→jz,log2→OG,lt_of_le_of_lt→jk,lt_or_ge→ct,lt_succ_self→fI,min_eq_left→tY,pow_le_pow_right→Jn,sub_le→BC,succ_pos→sZ,zero_add→bW,zero_le→dv,zero_lt_one→QK
open _root_.Option renaming getD_some→lS,isSome_some→Dy,none→aj,some_ne_none→wP,some→aa
open _root_.Option.some renaming injEq→cv,inj→pw
open _root_.Or renaming inl→dO,inr→e_
open _root_.Prod renaming ext→ks,fst→ay,snd→av
open _root_.Sum renaming inl→dg,inr→kz
namespace Gv
open Rx
set_option linter.unusedSectionVars false
section
variable {N:Type}
structure dz (m m':PM N):Prop where
 dG:m'.dG=m.dG
 live:m'.live=m.live
 free:m'.free=m.free
 held:m'.held=m.held
 cap:m'.cap=m.cap
 len:m'.vs.length=m.vs.length
theorem dz.refl (m:PM N):dz m m:=⟨rfl,rfl,rfl,rfl,rfl,rfl⟩
theorem dz.trans {a b c:PM N} (h:dz a b) (k:dz b c):dz a c:=⟨k.dG.trans h.dG,k.live.trans h.live,k.free.trans h.free,k.held.trans h.held,k.cap.trans h.cap,k.len.trans h.len⟩
theorem dz.ok {n:Nat} {m m':PM N} (h:dz m m'):gp n m'↔gp n m:=by
 constructor
 ·intro⟨h1,h2,h3,w8,h4,h5,h6,JD,h8⟩;exact⟨by rw[← h.dG,← h.len,h1],by rw[← h.live,← h.len,h2],by rw[← h.free,← h.len,← h.live];exact h3,by rw[← h.free];exact w8,by rw[← h.len];exact h4,by rw[← h.free];exact h5,by rw[← h.dG];exact h6,by rw[← h.dG,← h.live];exact JD,by rw[← h.held];exact h8⟩
 ·intro⟨h1,h2,h3,w8,h4,h5,h6,JD,h8⟩;exact⟨by rw[h.dG,h.len,h1],by rw[h.live,h.len,h2],by rw[h.free,h.len,h.live];exact h3,by rw[h.free];exact w8,by rw[h.len];exact h4,by rw[h.free];exact h5,by rw[h.dG];exact h6,by rw[h.dG,h.live];exact JD,by rw[h.held];exact h8⟩
theorem dz.aG (m:PM N) (r:Ref):dz m (aG m r):=by unfold aL;split<;>exact⟨rfl,rfl,rfl,rfl,rfl,rfl⟩
theorem dz.pT (m:PM N) (r:Ref) (n:N):dz m (pT m r n):=by
 unfold tN;split
 ·exact⟨rfl,rfl,rfl,rfl,rfl,by simp⟩
 ·exact dz.refl m
end
section
variable {E A:Type} (O:iX E A)
theorem dz.sL (m:Po E A) (r:Ref) (n l q:Node E A):dz m (sL O m r n l q):=dz.pT _ _ _
theorem dz.tie (m:Po E A) (r:Ref) (n:Node E A):dz m (tie O m r n):=((dz.aG _ _).trans (dz.aG _ _)).trans (dz.sL O _ _ _ _ _)
theorem dz.pd (m:Po E A) (r:Ref) (n:Node E A):dz m (pd O m r n):=((dz.aG _ _).trans (dz.tie O _ _ _)).trans (dz.tie O _ _ _)
theorem dz.pc (m:Po E A) (r:Ref) (n:Node E A):dz m (pc O m r n):=((dz.aG _ _).trans (dz.tie O _ _ _)).trans (dz.tie O _ _ _)
theorem dz.Co (m:PM (Node E A)) (a b c d:Ref):dz m (aL (aL (aL (aL m a) b) c) d):=(((dz.aG _ _).trans (dz.aG _ _)).trans (dz.aG _ _)).trans (dz.aG _ _)
theorem dz.level (m:Po E A) (r:Ref) (n:Node E A):dz m (level O m r n).2:=by
 unfold Gv.level;split
 ·split
  ·exact((dz.Co _ _ _ _ _).trans (dz.pd O _ _ _)).trans (dz.pc O _ _ _)
  ·exact(dz.Co _ _ _ _ _).trans (dz.pc O _ _ _)
 ·split
  ·split
   ·exact((dz.Co _ _ _ _ _).trans (dz.pc O _ _ _)).trans (dz.pd O _ _ _)
   ·exact(dz.Co _ _ _ _ _).trans (dz.pd O _ _ _)
  ·exact((dz.aG _ _).trans (dz.aG _ _)).trans (dz.sL O _ _ _ _ _)
theorem dz.replace:∀ (k:Nat) (m:Po E A) (r:Ref) (e:E),dz m (replace O k m r e).2
 |0,m,_,_=>dz.refl m
 |k+1,m,r,e=>by
  unfold Gv.replace;split
  ·exact dz.aG _ _
  ·split
   ·split
    ·exact((dz.aG _ _).trans (dz.replace k _ _ _)).trans (dz.tie O _ _ _)
    ·exact(dz.aG _ _).trans (dz.replace k _ _ _)
   ·split
    ·split
     ·exact((dz.aG _ _).trans (dz.replace k _ _ _)).trans (dz.tie O _ _ _)
     ·exact(dz.aG _ _).trans (dz.replace k _ _ _)
    ·exact(dz.aG _ _).trans (dz.tie O _ _ _)
theorem dz.lz:∀ (k:Nat) (m:Po E A) (r f:Ref) (e:E),dz m (lz O k m r f e).2
 |0,m,_,_,_=>dz.refl m
 |k+1,m,r,f,e=>by
  unfold Gv.lz;split
  ·exact dz.aG _ _
  ·split
   ·exact((dz.aG _ _).trans (dz.lz k _ _ _ _)).trans (dz.level O _ _ _)
   ·exact((dz.aG _ _).trans (dz.lz k _ _ _ _)).trans (dz.level O _ _ _)
theorem dz.link:∀ (k:Nat) (m:Po E A) (a b c:Ref),dz m (link O k m a b c).2
 |0,m,_,_,_=>dz.refl m
 |k+1,m,a,b,c=>by
  unfold Gv.link;split
  ·exact(((dz.aG _ _).trans (dz.aG _ _)).trans (dz.link k _ _ _ _)).trans (dz.level O _ _ _)
  ·split
   ·exact(((dz.aG _ _).trans (dz.aG _ _)).trans (dz.link k _ _ _ _)).trans (dz.level O _ _ _)
   ·exact(((dz.aG _ _).trans (dz.aG _ _)).trans (dz.aG _ _)).trans (dz.sL O _ _ _ _ _)
theorem dz.iU:∀ (k:Nat) (m:Po E A) (r:Ref),dz m (iU O k m r).2.2
 |0,m,_=>dz.refl m
 |k+1,m,r=>by
  unfold Gv.iU;split
  ·exact dz.aG _ _
  ·exact((dz.aG _ _).trans (dz.iU k _ _)).trans (dz.level O _ _ _)
theorem dz.glue (k:Nat) (m:Po E A) (a c:Ref):dz m (glue O k m a c).2:=by
 unfold Gv.glue;split
 ·exact dz.refl m
 ·exact(dz.iU O _ _ _).trans (dz.link O _ _ _ _ _)
theorem dz.pick (K:Nat):∀ (k:Nat) (m:Po E A) (r:Ref) (e:E),dz m (pick O K k m r e).2.2
 |0,m,_,_=>dz.refl m
 |k+1,m,r,e=>by
  unfold Gv.pick;split
  ·exact dz.aG _ _
  ·split
   ·split
    ·exact(dz.aG _ _).trans (dz.pick K k _ _ _)
    ·exact((dz.aG _ _).trans (dz.pick K k _ _ _)).trans (dz.level O _ _ _)
   ·split
    ·split
     ·exact(dz.aG _ _).trans (dz.pick K k _ _ _)
     ·exact((dz.aG _ _).trans (dz.pick K k _ _ _)).trans (dz.level O _ _ _)
    ·exact(dz.aG _ _).trans (dz.glue O _ _ _ _)
theorem dz.mi (K:Nat):∀ (k:Nat) (m:Po E A) (r:Ref) (e:E),dz m (mi O K k m r e).2.2
 |0,m,_,_=>dz.refl m
 |k+1,m,r,e=>by
  unfold Gv.mi;split
  ·exact dz.aG _ _
  ·split
   ·exact((dz.aG _ _).trans (dz.mi K k _ _ _)).trans (dz.link O _ _ _ _ _)
   ·exact((dz.aG _ _).trans (dz.mi K k _ _ _)).trans (dz.link O _ _ _ _ _)
theorem dz.cx:∀ (k:Nat) (m:Po E A) (r:Ref),dz m (cx O k m r).2
 |0,m,_=>dz.refl m
 |k+1,m,r=>by
  unfold b5;split
  ·exact dz.aG _ _
  ·exact((dz.aG _ _).trans (dz.cx k _ _)).trans (dz.cx k _ _)
theorem dz.gj:∀ (k:Nat) (m:Po E A) (n:Node E A) (a b:Int),dz m (gj O k m n a b).2
 |0,m,_,_,_=>dz.refl m
 |k+1,m,n,a,b=>by
  unfold g9;split
  ·exact dz.refl m
  ·split
   ·exact dz.refl m
   ·dsimp only
    split
    ·exact(dz.aG _ _).trans (dz.gj k _ _ _ _)
    ·exact(((dz.aG _ _).trans (dz.gj k _ _ _ _)).trans (dz.aG _ _)).trans (dz.gj k _ _ _ _)
theorem dz.first (may:A->A->Bool):∀ (k:Nat) (m:Po E A) (n:Node E A) (a:Part A) (f:Int),dz m (first O may k m n a f).2
 |0,m,_,_,_=>dz.refl m
 |k+1,m,n,a,f=>by
  unfold kT
  split
  ·exact dz.refl m
  ·split
   ·exact dz.refl m
   ·split
    ·exact(dz.aG _ _).trans (dz.first may k _ _ _ _)
    ·split
     ·exact(dz.aG _ _).trans (dz.first may k _ _ _ _)
     ·exact(((dz.aG _ _).trans (dz.first may k _ _ _ _)).trans (dz.aG _ _)).trans (dz.first may k _ _ _ _)
theorem dz.last (may:A->A->Bool):∀ (k:Nat) (m:Po E A) (n:Node E A) (a:Part A) (f:Int),dz m (last O may k m n a f).2
 |0,m,_,_,_=>dz.refl m
 |k+1,m,n,a,f=>by
  unfold kf;split
  ·exact dz.refl m
  ·split
   ·exact dz.refl m
   ·dsimp only
    split
    ·exact((dz.aG _ _).trans (dz.aG _ _)).trans (dz.last may k _ _ _ _)
    ·split
     ·exact((dz.aG _ _).trans (dz.aG _ _)).trans (dz.last may k _ _ _ _)
     ·exact(((dz.aG _ _).trans (dz.aG _ _)).trans (dz.last may k _ _ _ _)).trans (dz.last may k _ _ _ _)
end
section
variable {N E A:Type} {O:iX E A} {n:Nat}
theorem di {m:PM N} {r:Ref}:gp n (aG m r)↔gp n m:=(dz.aG _ _).ok
theorem agt {m:PM N} {r:Ref} {v:N}:gp n (pT m r v)↔gp n m:=(dz.pT _ _ _).ok
theorem yc {m:Po E A} {r:Ref} {v l q:Node E A}:gp n (sL O m r v l q)↔gp n m:=(dz.sL O _ _ _ _ _).ok
theorem AZ {m:Po E A} {r:Ref} {v:Node E A}:gp n (tie O m r v)↔gp n m:=(dz.tie O _ _ _).ok
theorem B1 {m:Po E A} {r:Ref} {v:Node E A}:gp n (pd O m r v)↔gp n m:=(dz.pd O _ _ _).ok
theorem Ce {m:Po E A} {r:Ref} {v:Node E A}:gp n (pc O m r v)↔gp n m:=(dz.pc O _ _ _).ok
theorem sN {m:Po E A} {r:Ref} {v:Node E A}:gp n (level O m r v).2↔gp n m:=(dz.level O _ _ _).ok
theorem sj {k:Nat} {m:Po E A} {r:Ref} {e:E}:gp n (replace O k m r e).2↔gp n m:=(dz.replace O _ _ _ _).ok
theorem yi {k:Nat} {m:Po E A} {r f:Ref} {e:E}:gp n (lz O k m r f e).2↔gp n m:=(dz.lz O _ _ _ _ _).ok
theorem yj {k:Nat} {m:Po E A} {a b c:Ref}:gp n (link O k m a b c).2↔gp n m:=(dz.link O _ _ _ _ _).ok
theorem vy {k:Nat} {m:Po E A} {r:Ref}:gp n (iU O k m r).2.2↔gp n m:=(dz.iU O _ _ _).ok
theorem HH {k:Nat} {m:Po E A} {a c:Ref}:gp n (glue O k m a c).2↔gp n m:=(dz.glue O _ _ _ _).ok
theorem yh {K k:Nat} {m:Po E A} {r:Ref} {e:E}:gp n (pick O K k m r e).2.2↔gp n m:=(dz.pick O K _ _ _ _).ok
theorem RA {K k:Nat} {m:Po E A} {r:Ref} {e:E}:gp n (mi O K k m r e).2.2↔gp n m:=(dz.mi O K _ _ _ _).ok
theorem qV {k:Nat} {m:Po E A} {r:Ref}:gp n (cx O k m r).2↔gp n m:=(dz.cx O _ _ _).ok
theorem P5 {k:Nat} {m:Po E A} {v:Node E A} {a b:Int}:gp n (gj O k m v a b).2↔gp n m:=(dz.gj O _ _ _ _ _).ok
theorem Ng {may:A->A->Bool} {k:Nat} {m:Po E A} {v:Node E A} {a:Part A} {f:Int}:gp n (first O may k m v a f).2↔gp n m:=(dz.first O may _ _ _ _ _).ok
theorem RI {may:A->A->Bool} {k:Nat} {m:Po E A} {v:Node E A} {a:Part A} {f:Int}:gp n (last O may k m v a f).2↔gp n m:=(dz.last O may _ _ _ _ _).ok
theorem np:(∀ {N:Type} {n:Nat} {m:PM N} {r:Ref},gp n (aG m r)↔gp n m)/\(∀ {N:Type} {n:Nat} {m:PM N} {r:Ref} {v:N},gp n (pT m r v)↔gp n m)/\(∀ {E A:Type} {O:iX E A} {n:Nat} {m:Po E A} {r:Ref} {v l q:Node E A},gp n (sL O m r v l q)↔gp n m)/\(∀ {E A:Type} {O:iX E A} {n:Nat} {m:Po E A} {r:Ref} {v:Node E A},gp n (tie O m r v)↔gp n m)/\(∀ {E A:Type} {O:iX E A} {n:Nat} {m:Po E A} {r:Ref} {v:Node E A},gp n (pd O m r v)↔gp n m)/\(∀ {E A:Type} {O:iX E A} {n:Nat} {m:Po E A} {r:Ref} {v:Node E A},gp n (pc O m r v)↔gp n m)/\(∀ {E A:Type} {O:iX E A} {n:Nat} {m:Po E A} {r:Ref} {v:Node E A},gp n (level O m r v).2↔gp n m)/\(∀ {E A:Type} {O:iX E A} {n:Nat} {k:Nat} {m:Po E A} {r:Ref} {e:E},gp n (replace O k m r e).2↔gp n m)/\(∀ {E A:Type} {O:iX E A} {n:Nat} {k:Nat} {m:Po E A} {r f:Ref} {e:E},gp n (lz O k m r f e).2↔gp n m)/\(∀ {E A:Type} {O:iX E A} {n:Nat} {k:Nat} {m:Po E A} {a b c:Ref},gp n (link O k m a b c).2↔gp n m)/\(∀ {E A:Type} {O:iX E A} {n:Nat} {k:Nat} {m:Po E A} {r:Ref},gp n (iU O k m r).2.2↔gp n m)/\(∀ {E A:Type} {O:iX E A} {n:Nat} {k:Nat} {m:Po E A} {a c:Ref},gp n (glue O k m a c).2↔gp n m)/\(∀ {E A:Type} {O:iX E A} {n:Nat} {K k:Nat} {m:Po E A} {r:Ref} {e:E},gp n (pick O K k m r e).2.2↔gp n m)/\(∀ {E A:Type} {O:iX E A} {n:Nat} {K k:Nat} {m:Po E A} {r:Ref} {e:E},gp n (mi O K k m r e).2.2↔gp n m)/\(∀ {E A:Type} {O:iX E A} {n:Nat} {k:Nat} {m:Po E A} {r:Ref},gp n (cx O k m r).2↔gp n m)/\(∀ {E A:Type} {O:iX E A} {n:Nat} {k:Nat} {m:Po E A} {v:Node E A} {a b:Int},gp n (gj O k m v a b).2↔gp n m)/\(∀ {E A:Type} {O:iX E A} {n:Nat} {may:A->A->Bool} {k:Nat} {m:Po E A} {v:Node E A} {a:Part A} {f:Int},gp n (first O may k m v a f).2↔gp n m)/\(∀ {E A:Type} {O:iX E A} {n:Nat} {may:A->A->Bool} {k:Nat} {m:Po E A} {v:Node E A} {a:Part A} {f:Int},gp n (last O may k m v a f).2↔gp n m):=⟨di,agt,yc,AZ,B1,Ce,sN,sj,yi,yj,vy,HH,yh,RA,qV,P5,Ng,RI⟩
@[simp] theorem iE (m:Po E A) (s r:Ref):lk O (aG m s) r=lk O m r:=VV _ _ _ _
theorem Ei (r:Ref):(⟨r.i,r.g⟩:Ref)=r:=rfl
theorem XS (i g:Int):(if an=ao then !(i==0&&(g==0&&ao)) else i==0&&(g==0&&ao))=decide ((⟨i,g⟩:Ref)=r0):=by
 rw[if_neg (by simp)]
 by_cases h:(⟨i,g⟩:Ref)=r0
 ·rw[decide_eq_true h];cases h
  rfl
 ·rw[decide_eq_false h];cases hb:(i==0&&(g==0&&ao)) with
  |false=>rfl
  |true =>
   simp only[Bool.and_eq_true,beq_iff_eq,and_true] at hb;obtain⟨rfl,rfl⟩:=hb;exact absurd rfl h
theorem sV:∀ {k:Nat} {m:Po E A} {s r:Ref},Deep O k (aG m s) r↔Deep O k m r
 |0,_,_,_=>sD
 |k+1,m,s,r=>by simp only[Deep,iE,sV]
theorem AY:∀ {k:Nat} {m:Po E A} {s r:Ref},sQ O k (aG m s) r↔sQ O k m r
 |0,_,_,_=>sD
 |k+1,m,s,r=>by simp only[sQ,iE,AY]
theorem Kh:∀ (k:Nat) (m:Po E A) (r s:Ref),lk O (cx O k m r).2 s=lk O m s
 |0,m,_,_=>rfl
 |k+1,m,r,s=>by
  unfold b5;split
  ·exact iE _ _ _
  ·dsimp only
   rw[Kh k,Kh k,iE]
theorem D9:∀ (k:Nat) (m:Po E A) (n:Node E A) (a b:Int) (s:Ref),lk O (gj O k m n a b).2 s=lk O m s
 |0,m,_,_,_,_=>rfl
 |k+1,m,n,a,b,s=>by
  rw[g9];split
  ·rfl
  ·split
   ·rfl
   ·dsimp only
    split
    ·dsimp only
     rw[D9 k,iE]
    ·dsimp only
     rw[D9 k,iE,D9 k,iE]
theorem lu (may:A->A->Bool):∀ (k:Nat) (m:Po E A) (n:Node E A) (a:Part A) (f:Int) (s:Ref),lk O (first O may k m n a f).2 s=lk O m s
 |0,m,_,_,_,_=>rfl
 |k+1,m,n,a,f,s=>by
  rw[kT]
  split
  ·rfl
  ·split
   ·rfl
   ·split
    ·rw[lu may k,iE]
    ·split
     ·dsimp only
      rw[lu may k,iE]
     ·rw[lu may k,iE,lu may k,iE]
theorem mD (may:A->A->Bool):∀ (k:Nat) (m:Po E A) (n:Node E A) (a:Part A) (f:Int) (s:Ref),lk O (last O may k m n a f).2 s=lk O m s
 |0,m,_,_,_,_=>rfl
 |k+1,m,n,a,f,s=>by
  rw[kf];split
  ·rfl
  ·split
   ·rfl
   ·dsimp only
    split
    ·rw[mD may k,iE,iE]
    ·split
     ·dsimp only
      rw[mD may k,iE,iE]
     ·rw[mD may k,mD may k,iE,iE]
theorem LA:∀ {k:Nat} {m m':Po E A} {r:Ref},(∀ s,lk O m' s=lk O m s)->(Deep O k m' r↔Deep O k m r)
 |0,_,_,_,_=>sD
 |k+1,m,m',r,h=>by simp only[Deep,h,LA h]
theorem Mv {k j:Nat} {m:Po E A} {q r:Ref}:Deep O k (cx O j m q).2 r↔Deep O k m r:=LA (Kh j m q)
end
end Gv
namespace Gv
open Rx
set_option linter.unusedSectionVars false
inductive Tr (E:Type)
 |nil
 |node (r:Ref) (l:Tr E) (e:E) (q:Tr E)
namespace Tr
variable {E:Type}
def root:Tr E->Ref
 |nil=>r0
 |node r _ _ _=>r
def items:Tr E->List (Ref×E)
 |nil=>[]
 |node r l e q=>l.items++(r,e)::q.items
def h:Tr E->Nat
 |nil=>0
 |node _ l _ q=>1+max l.h q.h
def elems (t:Tr E):List E:=t.items.map av
def refs (t:Tr E):List Ref:=t.items.map ay
def mL:Tr E->Prop
 |nil=>True
 |node _ l _ q=>l.mL/\q.mL/\l.h≤q.h+1/\q.h≤l.h+1
theorem A_:∀ t:Tr E,t.h≤t.items.length
 |nil=>a_ _
 |node r l e q=>by
  have h1:=A_ l;have h2:=A_ q;simp only[h,items,bE,cy];omega
theorem gL (r:Ref) (l:Tr E) (e:E) (q:Tr E):(node r l e q).elems=l.elems++e::q.elems:=by simp[elems,items]
theorem jW (r:Ref) (l:Tr E) (e:E) (q:Tr E):(node r l e q).refs=l.refs++r::q.refs:=by simp[refs,items]
theorem fe (t:Tr E):t.elems.length=t.items.length:=by simp[elems]
theorem Mu (t:Tr E):t.refs.length=t.items.length:=by simp[refs]
end Tr
structure zE {E A:Type} (O:iX E A) (S:List E->A) (dm:List E->Prop):Prop where
 nil:S []=O.a0
 one:∀ e,S [e]=O.sum e
 plus:∀ x y,dm (x++y)->x≠[]->y≠[]->O.plus (S x) (S y)=S (x++y)
 left:∀ x y,dm (x++y)->dm x
 right:∀ x y,dm (x++y)->dm y
 len:∀ x,dm x->x.length≤1000000
 swap:∀ a b,O.cmp a b<0↔0<O.cmp b a
 trans:∀ a b c,O.cmp a b<0->O.cmp b c<0->O.cmp a c<0
 eqv:∀ a b c,O.cmp a b=0->O.cmp b c<0->O.cmp a c<0
 ZE:∀ a b c,O.cmp a b=0->O.cmp c b<0->O.cmp c a<0
section
variable {E A:Type} (O:iX E A) (S:List E->A)
def nd (t:Tr E):Node E A :=
 match t with
 |.nil=>zn O
 |.node r l e q=>⟨e,l.root,q.root,⟨(Tr.node r l e q).items.length,S (Tr.node r l e q).elems⟩,(Tr.node r l e q).h⟩
def Rp (m:Po E A):Tr E->Prop
 |.nil=>True
 |.node r l e q=>has m r=ao/\lk O m r=nd O S (.node r l e q)/\Rp m l/\Rp m q
variable {O S} {dm:List E->Prop} (Z:zE O S dm)
theorem ry (r:Ref) (l:Tr E) (e:E) (q:Tr E):nd O S (.node r l e q)=⟨e,l.root,q.root,⟨(Tr.node r l e q).items.length,S (Tr.node r l e q).elems⟩,(Tr.node r l e q).h⟩:=rfl
theorem ud (m:Po E A) (a b:Ref):iV [] 2 (zn O) m (aG (aG m a) b):=(gK _ m a).to (gK _ _ b) (fun r hr=>by simp at hr) (a_ _)
theorem Vt (m:Po E A) (a b c d:Ref):iV [] 4 (zn O) m (aG (aG (aG (aG m a) b) c) d):=(ud m a b).to (ud _ c d) (fun r hr=>by simp at hr) (a_ _)
theorem rJ (t:Tr E):(nd O S t).h=(t.h:Int):=by cases t<;>rfl
theorem rT (hZ:S []=O.a0) (t:Tr E):(nd O S t).all=⟨t.items.length,S t.elems⟩:=by
 cases t with
 |nil=>simp[nd,zn,Tr.items,Tr.elems,hZ]
 |node r l e q=>rfl
theorem Rp.root {n:Nat} {m:Po E A} (ho:gp n m) {t:Tr E} (h:Rp O S m t):lk O m t.root=nd O S t:=by
 cases t with
 |nil =>
  show look (zn O) m r0=_
  unfold look;rw[ho.z0]
  rfl
 |node r l e q=>exact h.2.1
theorem Rp.frame {R:List Ref} {k:Nat} {m m':Po E A} (hu:iV R k (zn O) m m'):∀ {t:Tr E},(∀ s,s∈t.refs->s∉R)->Rp O S m t->Rp O S m' t
 |.nil,_,_=>trivial
 |.node r l e q,hd,h=>by
  obtain⟨h1,h2,h3,h4⟩:=h;rw[Tr.jW] at hd;refine⟨by rw[hu.has];exact h1,?_,Rp.frame hu (fun s hs=>hd s (by simp[hs])) h3,Rp.frame hu (fun s hs=>hd s (by simp[hs])) h4⟩
  rw[← h2];exact hu.look r (hd r (by simp))
theorem Rp.aG {m:Po E A} {t:Tr E} (s:Ref) (h:Rp O S m t):Rp O S (aG m s) t:=Rp.frame (gK _ m s) (fun _ _ hs=>by cases hs) h
theorem Rp.has {m:Po E A}:∀ {t:Tr E},Rp O S m t->∀ s,s∈t.refs->has m s=ao
 |.nil,_,s,hs=>by cases hs
 |.node r l e q,h,s,hs=>by
  obtain⟨h1,h2,h3,h4⟩:=h;rw[Tr.jW,bY,bN] at hs;rcases hs with hs|rfl|hs
  ·exact Rp.has h3 s hs
  ·exact h1
  ·exact Rp.has h4 s hs
theorem ah2 {n:Nat} {m:Po E A} (ho:gp n m) {t:Tr E} (h:Rp O S m t) (hn:t≠.nil):t.root≠r0:=by
 cases t with
 |nil=>exact absurd rfl hn
 |node r l e q =>
  intro e0;have:=h.1;simp only[Tr.root] at e0;rw[e0,ho.z0] at this;cases this
include Z
theorem pM {x y:List E} (hg:dm (x++y)):ef O ⟨x.length,S x⟩ ⟨y.length,S y⟩=⟨(x++y).length,S (x++y)⟩:=by
 unfold ef;cases x with
 |nil=>simp
 |cons a x =>
  cases y with
  |nil =>
   simp only[List.append_nil,jX];rw[if_neg (by simp;omega),if_pos (by rfl)]
  |cons b y =>
   have hl:=Z.len _ hg;simp only[bE,cy] at hl;rw[if_neg (by simp;omega),if_neg (by simp;omega),Z.plus _ _ hg (by simp) (by simp),uK (by simp only[cy];omega)]
   simp only[bE,cy]
   congr 1
theorem BS (e:E):one O e=⟨([e]:List E).length,S [e]⟩:=by rw[one,Z.one];rfl
theorem abr {x y:List E} {e:E} (hg:dm (x++e::y)):ef O (ef O ⟨x.length,S x⟩ (one O e)) ⟨y.length,S y⟩=⟨(x++e::y).length,S (x++e::y)⟩:=by
 have e1:x++e::y=(x++[e])++y:=by simp
 rw[e1] at hg ⊢;rw[BS Z,pM Z (Z.left _ _ hg),pM Z hg]
theorem R_ {n:Nat} {m:Po E A} (ho:gp n m) {r:Ref} {l q:Tr E} {v:Node E A} (hl:Rp O S m l) (hq:Rp O S m q) (hr:has m r=ao) (Qc:r∉l.refs) (hnq:r∉q.refs)
  (e1:v.l=l.root) (e2:v.r=q.root) (hg:dm (l.elems++v.e::q.elems)) :
  Rp O S (sL O m r v (nd O S l) (nd O S q)) (.node r l v.e q)/\iV [r] 1 (zn O) m (sL O m r v (nd O S l) (nd O S q)):=by
 have hu:=Vq (zn O) m r ⟨v.e,v.l,v.r,ef O (ef O (nd O S l).all (one O v.e)) (nd O S q).all,W (1+mx (nd O S l).h (nd O S q).h)⟩;refine⟨⟨by rw[sL,hu.has];exact hr,?_,Rp.frame hu (fun s hs=>by simp;rintro rfl;exact Qc hs) hl,Rp.frame hu (fun s hs=>by simp;rintro rfl;exact hnq hs) hq⟩,hu⟩
 show look (zn O) _ r=_
 rw[sL,abk (zn O) _ hr];have hlen:=Z.len _ hg;have h1:=l.A_;have h2:=q.A_;simp only[bE,cy,Tr.fe] at hlen;rw[rT Z.nil,rT Z.nil,rJ,rJ,← Tr.fe,← Tr.fe,abr Z hg];simp only[nd,e1,e2,Tr.gL,Tr.items,Tr.h];have e3:W (1+mx (l.h:Int) (q.h:Int))=((1+max l.h q.h:Nat):Int):=by
  unfold mx;rw[uK (by split<;>omega)]
  split<;>omega
 rw[e3];simp[Tr.elems]
theorem Ez {n:Nat} {m:Po E A} (ho:gp n m) {r:Ref} {l q:Tr E} {v:Node E A} (hl:Rp O S m l) (hq:Rp O S m q) (hr:has m r=ao) (Qc:r∉l.refs) (hnq:r∉q.refs)
  (e1:v.l=l.root) (e2:v.r=q.root) (hg:dm (l.elems++v.e::q.elems)) :
  Rp O S (tie O m r v) (.node r l v.e q)/\iV [r] 3 (zn O) m (tie O m r v):=by
 unfold tie;have k1:lk O m v.l=nd O S l:=by rw[e1];exact hl.root ho
 have k2:lk O (aG m v.l) v.r=nd O S q:=by rw[iE,e2];exact hq.root ho
 rw[k1,k2];obtain⟨p1,p2⟩:=R_ Z (m:=aG (aG m v.l) v.r) (di.2 (di.2 ho)) ((hl.aG _).aG _) ((hq.aG _).aG _) (by simpa using hr) Qc hnq e1 e2 hg
 exact⟨p1,(ud m v.l v.r).to p2 (fun r hr=>by simpa using hr) (by omega)⟩
omit Z in
structure Is (O:iX E A) (S:List E->A) (m:Po E A) (root:Ref) (iW:List (Ref×E)) (t:Tr E):Prop where
 root:root=t.root
 rp:Rp O S m t
 iW:t.items=iW
 mL:t.mL
theorem NU {n:Nat} {m:Po E A} (ho:gp n m) {r u:Ref} {a b c:Tr E} {y:E} {v:Node E A} (ha:Rp O S m a) (hb:Rp O S m (.node u b y c)) (hr:has m r=ao)
  (l_:(a.refs++r::(b.refs++u::c.refs)).Nodup) (e1:v.l=a.root) (e2:v.r=u) (hg:dm (a.elems++v.e::(b.elems++y::c.elems))) :
  Rp O S (pd O m r v) (.node u (.node r a v.e b) y c)/\iV [r,u] 7 (zn O) m (pd O m r v):=by
 obtain⟨b1,b2,b3,b4⟩:=hb;have k1:lk O m v.r=nd O S (.node u b y c):=by rw[e2];exact b2
 unfold pd;rw[k1,e2];simp only[nd];simp only[ch,fP,bY,bN,not_or] at l_;have P9:dm (a.elems++v.e::b.elems):=Z.left _ (y::c.elems) (by simpa using hg)
 obtain⟨p1,p2⟩:=Ez Z (m:=aG m u) (r:=r) (v:=⟨v.e,v.l,b.root,v.all,v.h⟩) (di.2 ho) (ha.aG _) (b3.aG _) (by simpa using hr)
  (fun h=>l_.2.2 r h r (dO rfl) rfl) (fun h=>l_.2.1.1.1 h) e1 rfl P9
 have q1:=(gK (zn O) m u).to p2 (S:=[r]) (k:=4) (fun r hr=>by simpa using hr) (by omega)
 obtain⟨s1,s2⟩:=Ez Z (m:=tie O (aG m u) r ⟨v.e,v.l,b.root,v.all,v.h⟩) (r:=u) (l:=.node r a v.e b) (q:=c) (v:=⟨y,r,c.root,⟨(Tr.node u b y c).items.length,S (Tr.node u b y c).elems⟩,(Tr.node u b y c).h⟩)
  (AZ.2 (di.2 ho)) p1 (Rp.frame q1 (fun s hs=>by simp;rintro rfl;exact l_.2.1.1.2.2 hs) b4) (by rw[q1.has];exact b1)
  (by
   rw[Tr.jW];simp only[bY,bN,not_or];exact⟨fun h=>l_.2.2 u h u (e_ (e_ (dO rfl))) rfl,fun h=>l_.2.1.1.2.1 h.symm,fun h=>l_.2.1.2.2.2 u h u (dO rfl) rfl⟩)
  (fun h=>l_.2.1.2.2.1.1 h) rfl rfl (by rw[Tr.gL];simpa using hg)
 exact⟨s1,q1.to s2 (fun s hs=>by simp at hs;rcases hs with rfl|rfl<;>simp) (by omega)⟩
theorem Nr {n:Nat} {m:Po E A} (ho:gp n m) {r u:Ref} {a b c:Tr E} {y:E} {v:Node E A} (hb:Rp O S m (.node u a y b)) (hc:Rp O S m c) (hr:has m r=ao)
  (l_:((a.refs++u::b.refs)++r::c.refs).Nodup) (e1:v.l=u) (e2:v.r=c.root) (hg:dm ((a.elems++y::b.elems)++v.e::c.elems)) :
  Rp O S (pc O m r v) (.node u a y (.node r b v.e c))/\iV [r,u] 7 (zn O) m (pc O m r v):=by
 obtain⟨b1,b2,b3,b4⟩:=hb;have k1:lk O m v.l=nd O S (.node u a y b):=by rw[e1];exact b2
 unfold pc;rw[k1,e1];simp only[nd];simp only[ch,fP,bY,bN,not_or] at l_;have P9:dm (b.elems++v.e::c.elems):=Z.right (a.elems++[y]) _ (by simpa using hg)
 have nu:r≠u:=fun h=>l_.2.2 u (e_ (dO rfl)) r (dO rfl) h.symm
 obtain⟨p1,p2⟩:=Ez Z (m:=aG m u) (r:=r) (v:=⟨v.e,b.root,v.r,v.all,v.h⟩) (di.2 ho) (b4.aG _) (hc.aG _) (by simpa using hr)
  (fun h=>l_.2.2 r (e_ (e_ h)) r (dO rfl) rfl) (fun h=>l_.2.1.1 h) rfl e2 P9
 have q1:=(gK (zn O) m u).to p2 (S:=[r]) (k:=4) (fun r hr=>by simpa using hr) (by omega)
 obtain⟨s1,s2⟩:=Ez Z (m:=tie O (aG m u) r ⟨v.e,b.root,v.r,v.all,v.h⟩) (r:=u) (l:=a) (q:=.node r b v.e c) (v:=⟨y,a.root,r,⟨(Tr.node u a y b).items.length,S (Tr.node u a y b).elems⟩,(Tr.node u a y b).h⟩)
  (AZ.2 (di.2 ho)) (Rp.frame q1 (fun s hs=>by simp;rintro rfl;exact l_.2.2 s (dO hs) s (dO rfl) rfl) b3) p1 (by rw[q1.has];exact b1)
  (fun h=>l_.1.2.2 u h u (dO rfl) rfl)
  (by
   rw[Tr.jW];simp only[bY,bN,not_or];exact⟨fun h=>l_.1.2.1.1 h,fun h=>nu h.symm,fun h=>l_.2.2 u (e_ (dO rfl)) u (e_ h) rfl⟩)
  rfl rfl (by simpa [Tr.gL] using hg)
 exact⟨s1,q1.to s2 (fun s hs=>by simp at hs;rcases hs with rfl|rfl<;>simp) (by omega)⟩
omit Z in
theorem Rp.Co {m:Po E A} {t:Tr E} (a b c d:Ref) (h:Rp O S m t):Rp O S (aL (aL (aL (aL m a) b) c) d) t:=(((h.aG _).aG _).aG _).aG _
theorem zo {n:Nat} {m:Po E A} (ho:gp n m) {r:Ref} {l q:Tr E} {v:Node E A} (hl:Rp O S m l) (hq:Rp O S m q) (hr:has m r=ao)
  (l_:(l.refs++r::q.refs).Nodup) (e1:v.l=l.root) (e2:v.r=q.root) (hg:dm (l.elems++v.e::q.elems)) (bl:l.mL) (bq:q.mL) (d1:l.h≤q.h+2) (d2:q.h≤l.h+2) :
  ∃ t,Is O S (level O m r v).2 (level O m r v).1 (l.items++(r,v.e)::q.items) t/\max l.h q.h≤t.h/\t.h≤max l.h q.h+1/\(l.h≤q.h+1->q.h≤l.h+1->t.h=max l.h q.h+1) /\
   iV (l.refs++r::q.refs) 20 (zn O) m (level O m r v).2:=by
 have k1:lk O m v.l=nd O S l:=by rw[e1];exact hl.root ho
 have k2:lk O m v.r=nd O S q:=by rw[e2];exact hq.root ho
 have hlen:=Z.len _ hg;have h1:=l.A_;have h2:=q.A_;simp only[bE,cy,Tr.fe] at hlen;have w1:W ((q.h:Int)+1)=(q.h:Int)+1:=uK (by omega)
 have w2:W ((l.h:Int)+1)=(l.h:Int)+1:=uK (by omega)
 unfold level;simp only[iE,k1,k2,rJ,w1,w2];have rN:=l_;simp only[ch,fP,bY,bN,not_or] at rN;split
 ·rename_i nF;cases l with
  |nil=>simp only[Tr.h] at nF;omega
  |node a ll x lr =>
   obtain⟨zQ,BK,yQ,yY⟩:=hl;obtain⟨bl1,bl2,bl3,bl4⟩:=bl;have k3:lk O m lr.root=nd O S lr:=yY.root ho;have k4:lk O m ll.root=nd O S ll:=yQ.root ho;simp only[ry,k3,k4,rJ,Tr.h] at nF d1 ⊢;rw[Tr.jW] at l_;rw[Tr.gL] at hg;have Jg:=Vt (O:=O) m v.l v.r lr.root ll.root;have Uv:gp n (aG (aG (aG (aG m v.l) v.r) lr.root) ll.root):=di.2 (di.2 (di.2 (di.2 ho)));split
   ·rename_i kj;cases lr with
    |nil=>simp only[Tr.h] at kj;omega
    |node b p y c =>
     obtain⟨sn,ni,mj,mw⟩:=yY;obtain⟨br1,br2,br3,br4⟩:=bl2;simp only[Tr.h] at kj nF d1 bl3 bl4 ⊢;rw[Tr.jW] at l_;rw[Tr.gL] at hg;have adB:(ll.refs++a::(p.refs++b::c.refs)).Nodup:=(ch.1 l_).1;obtain⟨p1,p2⟩:=NU Z Uv (r:=a) (u:=b) (a:=ll) (b:=p) (c:=c) (y:=y) (v:=⟨x,ll.root,b,⟨(Tr.node a ll x (.node b p y c)).items.length,S (Tr.node a ll x (.node b p y c)).elems⟩,((Tr.node a ll x (.node b p y c)).h:Nat)⟩)
      (Rp.Co _ _ _ _ yQ) (Rp.Co _ _ _ _ ⟨sn,ni,mj,mw⟩) (by simpa using zQ) adB rfl rfl (Z.left _ _ hg)
     have q1:=Jg.to p2 (S:=[a,b]) (k:=11) (fun s hs=>by simpa using hs) (by omega)
     have anU:(((ll.refs++a::p.refs)++b::c.refs)++r::q.refs).Nodup:=by simpa using l_
     have dq:∀ s,s∈q.refs->s∉[a,b]:=fun s hs JI=>by
      have:=(ch.1 l_).2.2 s (by simp at JI;rcases JI with rfl|rfl<;>simp) s (by simp[hs])
      exact this rfl
     obtain⟨s1,s2⟩:=Nr Z (B1.2 Uv) (r:=r) (u:=b) (a:=.node a ll x p) (b:=c) (c:=q) (y:=y) (v:=⟨v.e,b,v.r,v.all,v.h⟩) p1 (Rp.frame q1 dq hq) (by rw[q1.has];exact hr)
      (by rw[Tr.jW];exact anU) rfl e2 (by rw[Tr.gL];simpa using hg)
     rw[e1] at *
     refine⟨.node b (.node a ll x p) y (.node r c v.e q),⟨rfl,s1,by simp[Tr.items],?_⟩,?_,?_,?_,(q1.to s2 (fun s hs=>by simp at hs;rw[Tr.jW,Tr.jW];rcases hs with(rfl|rfl)|rfl|rfl<;>simp) (by omega))⟩
     ·simp only[Tr.mL,Tr.h];refine⟨⟨bl1,br1,by omega,by omega⟩,⟨br2,bq,by omega,by omega⟩,by omega,by omega⟩
     ·simp only[Tr.h];omega
     ·simp only[Tr.h];omega
     ·intro _ _;omega
   ·rename_i kj;obtain⟨s1,s2⟩:=Nr Z Uv (r:=r) (u:=a) (a:=ll) (b:=lr) (c:=q) (y:=x) (v:=v) (Rp.Co _ _ _ _ ⟨zQ,BK,yQ,yY⟩) (Rp.Co _ _ _ _ hq) (by simpa using hr)
     l_ e1 e2 hg
    rw[e1] at *
    refine⟨.node a ll x (.node r lr v.e q),⟨rfl,s1,by simp[Tr.items],?_⟩,?_,?_,?_,(Jg.to s2 (fun s hs=>by simp at hs;rw[Tr.jW];rcases hs with rfl|rfl<;>simp) (by omega))⟩
    ·simp only[Tr.mL,Tr.h];refine⟨bl1,⟨bl2,bq,by omega,by omega⟩,by omega,by omega⟩
    ·simp only[Tr.h];omega
    ·simp only[Tr.h];omega
    ·intro _ _;omega
 ·split
  ·rename_i aqp nF;cases q with
   |nil=>simp only[Tr.h] at nF;omega
   |node a ql x qr =>
    obtain⟨sT,Gl,Yl,hq4⟩:=hq;obtain⟨bq1,bq2,bq3,bq4⟩:=bq;have k3:lk O m ql.root=nd O S ql:=Yl.root ho;have k4:lk O m qr.root=nd O S qr:=hq4.root ho;simp only[ry,k3,k4,rJ,Tr.h] at nF d2 ⊢;rw[Tr.jW] at l_;rw[Tr.gL] at hg;have Jg:=Vt (O:=O) m v.l v.r ql.root qr.root;have Uv:gp n (aG (aG (aG (aG m v.l) v.r) ql.root) qr.root):=di.2 (di.2 (di.2 (di.2 ho)));split
    ·rename_i kj;cases ql with
     |nil=>simp only[Tr.h] at kj;omega
     |node b p y c =>
      obtain⟨sn,ni,mj,mw⟩:=Yl;obtain⟨br1,br2,br3,br4⟩:=bq1;simp only[Tr.h] at kj nF d2 bq3 bq4 ⊢;rw[Tr.jW] at l_;rw[Tr.gL] at hg;have adB:((p.refs++b::c.refs)++a::qr.refs).Nodup:=(fP.1 (ch.1 l_).2.1).2;have P9:dm ((p.elems++y::c.elems)++x::qr.elems):=Z.right (l.elems++[v.e]) _ (by simpa using hg)
      obtain⟨p1,p2⟩:=Nr Z Uv (r:=a) (u:=b) (a:=p) (b:=c) (c:=qr) (y:=y) (v:=⟨x,b,qr.root,⟨(Tr.node a (.node b p y c) x qr).items.length,S (Tr.node a (.node b p y c) x qr).elems⟩,((Tr.node a (.node b p y c) x qr).h:Nat)⟩)
       (Rp.Co _ _ _ _ ⟨sn,ni,mj,mw⟩) (Rp.Co _ _ _ _ hq4) (by simpa using sT) adB rfl rfl P9
      have q1:=Jg.to p2 (S:=[a,b]) (k:=11) (fun s hs=>by simpa using hs) (by omega)
      have dl:∀ s,s∈l.refs->s∉[a,b]:=fun s hs JI=>by
       have:=(ch.1 l_).2.2 s hs s (by simp at JI;rcases JI with rfl|rfl<;>simp)
       exact this rfl
      obtain⟨s1,s2⟩:=NU Z (Ce.2 Uv) (r:=r) (u:=b) (a:=l) (b:=p) (c:=.node a c x qr) (y:=y) (v:=⟨v.e,v.l,b,v.all,v.h⟩) (Rp.frame q1 dl hl) p1 (by rw[q1.has];exact hr)
       (by rw[Tr.jW];simpa using l_) e1 rfl (by rw[Tr.gL];simpa using hg)
      rw[e2] at *
      refine⟨.node b (.node r l v.e p) y (.node a c x qr),⟨rfl,s1,by simp[Tr.items],?_⟩,?_,?_,?_,(q1.to s2 (fun s hs=>by simp at hs;rw[Tr.jW,Tr.jW];rcases hs with(rfl|rfl)|rfl|rfl<;>simp) (by omega))⟩
      ·simp only[Tr.mL,Tr.h];refine⟨⟨bl,br1,by omega,by omega⟩,⟨br2,bq2,by omega,by omega⟩,by omega,by omega⟩
      ·simp only[Tr.h];omega
      ·simp only[Tr.h];omega
      ·intro _ _;omega
    ·rename_i kj;obtain⟨s1,s2⟩:=NU Z Uv (r:=r) (u:=a) (a:=l) (b:=ql) (c:=qr) (y:=x) (v:=v) (Rp.Co _ _ _ _ hl) (Rp.Co _ _ _ _ ⟨sT,Gl,Yl,hq4⟩) (by simpa using hr)
      l_ e1 e2 hg
     rw[e2] at *
     refine⟨.node a (.node r l v.e ql) x qr,⟨rfl,s1,by simp[Tr.items],?_⟩,?_,?_,?_,(Jg.to s2 (fun s hs=>by simp at hs;rw[Tr.jW];rcases hs with rfl|rfl<;>simp) (by omega))⟩
     ·simp only[Tr.mL,Tr.h];refine⟨⟨bl,bq1,by omega,by omega⟩,bq2,by omega,by omega⟩
     ·simp only[Tr.h];omega
     ·simp only[Tr.h];omega
     ·intro _ _;omega
  ·rename_i hn1 hn2;obtain⟨s1,s2⟩:=R_ Z (m:=aG (aG m v.l) v.r) (di.2 (di.2 ho)) ((hl.aG _).aG _) ((hq.aG _).aG _) (by simpa using hr) (fun h=>rN.2.2 r h r (dO rfl) rfl) (fun h=>rN.2.1.1 h) e1 e2 hg
   refine⟨.node r l v.e q,⟨rfl,s1,rfl,⟨bl,bq,by omega,by omega⟩⟩,?_,?_,?_,(ud m v.l v.r).to s2 (fun s hs=>by simp at hs;subst hs;simp) (by omega)⟩
   ·simp only[Tr.h];omega
   ·simp only[Tr.h];omega
   ·intro _ _;simp only[Tr.h];omega
end
end Gv
namespace Wv
open Rx
structure Mk where
 t:Int
 ins:Bool
 it:It
 here:Bool
 tf:Bool
 tk:It
structure Sw where
 c:Ti.Td
 w:Ti.Td
 d:Int
 f:Int
 m:It
 gf:Bool
 g:It
 lf:Bool
 l:It
def mz:Mk:=⟨0,an,⟨0,0⟩,an,an,⟨0,0⟩⟩
def sz:Sw:=⟨⟨0,0,0⟩,⟨0,0,0⟩,0,0,⟨0,0⟩,an,⟨0,0⟩,an,⟨0,0⟩⟩
def sP (x:It) (here:Bool):Sw:=if here=ao then⟨⟨1,1,1⟩,⟨1,0,0⟩,0,0,⟨0,0⟩,an,⟨0,0⟩,ao,x⟩ else⟨⟨1,1,1⟩,⟨1,1,1⟩,0,0,⟨0,0⟩,ao,x,an,⟨0,0⟩⟩
def sI (tf:Bool) (tk:It):Sw:=if tf=ao then⟨⟨1,-1,-1⟩,⟨1,-1,-1⟩,1,0,tk,an,⟨0,0⟩,an,⟨0,0⟩⟩ else⟨⟨1,-1,-1⟩,⟨1,-1,-1⟩,1,1,⟨0,0⟩,an,⟨0,0⟩,an,⟨0,0⟩⟩
def Mk.sum (m:Mk):Sw:=if m.ins=ao then sP m.it m.here else sI m.tf m.tk
def Ft (s o:Sw):It:=if o.d=o.f then s.m else if s.d=s.f∨ah s.m o.m then o.m else s.m
def vH (side:Int) (af:Bool) (a:It) (bf:Bool) (b:It):Bool×It:=if bf=ao/\(¬ af=ao∨kX b a=side) then(bf,b) else if ¬ af=ao then(an,⟨0,0⟩) else(af,a)
def Sw.plus (s o:Sw):Sw:=⟨s.c.plus o.c,s.w.plus o.w,WY (s.d+o.d),WY (s.f+o.f),Ft s o,(vH 1 s.gf s.g o.gf o.g).1,(vH 1 s.gf s.g o.gf o.g).2,(vH (-1) s.lf s.l o.lf o.l).1,(vH (-1) s.lf s.l o.lf o.l).2⟩
def O8:Gv.iX Mk Sw:=⟨mz,sz,fun a b=>C0 a.t b.t,Mk.sum,Sw.plus⟩
def OS (m:Mk):Int:=if m.ins=ao then 1 else -1
def uR (m:Mk):Int:=if m.ins=ao/\m.here=ao then 0 else OS m
def vw (l:List Mk):List Mk:=l.filter fun m=>!m.ins
def pX (l:List Mk):List Mk:=l.filter fun m=>!m.ins && !m.tf
def vz (l:List Mk):List It:=(l.filter fun m=>!m.ins&&m.tf).map Mk.tk
def mh (h:Bool) (l:List Mk):List It:=(l.filter fun m=>m.ins&&(m.here==h)).map Mk.it
def S8 (l:List Mk):Sw:=⟨xH (l.map OS),xH (l.map uR),(vw l).length,(pX l).length,(hi (vz l)).getD iz,(hi (mh an l)).isSome,(hi (mh an l)).getD iz,(lo (mh ao l)).isSome,(lo (mh ao l)).getD iz⟩
def GD (l:List Mk):Prop:=l.length≤60
theorem afg (m:Mk):-1≤OS m/\OS m≤1:=by unfold OS;split<;>omega
theorem ZG (m:Mk):-1≤uR m/\uR m≤1:=by unfold uR;split;omega;exact afg m
theorem Ge {l:List Mk} {f:Mk->Int} (hf:∀ m,-1≤f m/\f m≤1) (h:l.length≤60):Ti.Small (l.map f):=by
 have hb:∀ i,i<(l.map f).length->-1≤(l.map f).getD i 0/\(l.map f).getD i 0≤1:=fun i hi=>by
  have kQ:i<l.length:=by simpa using hi
  rw[au,fu,List.getElem?_eq_getElem kQ];exact hf _
 refine⟨by simpa using h,fun i hi=>?_,fun i hi=>?_⟩
 ·have:=hb i hi;omega
 ·have:=hb i hi;omega
theorem ai_ (a b:Option It):vH 1 a.isSome (a.getD iz) b.isSome (b.getD iz)=((up a b).isSome,(up a b).getD iz):=by
 unfold vH;simp only[adY];cases a with
 |none=>cases b<;>simp[up]
 |some a =>
  cases b with
  |none=>simp[up]
  |some b=>simp only[Dy,lS,up];by_cases h:ah a b<;>simp[h]
theorem akQ (a b:Option It):vH (-1) a.isSome (a.getD iz) b.isSome (b.getD iz)=((dn a b).isSome,(dn a b).getD iz):=by
 unfold vH;simp only[aen];cases a with
 |none=>cases b<;>simp[dn]
 |some a =>
  cases b with
  |none=>simp[dn]
  |some b=>simp only[Dy,lS,dn];by_cases h:ah b a<;>simp[h]
theorem aeP (l:List Mk):(vw l).length=(pX l).length+(vz l).length:=by
 unfold vw pX vz;rw[fZ]
 induction l with
 |nil=>rfl
 |cons m l ih =>
  simp only[List.filter_cons];cases m.ins<;>cases m.tf<;>simp at *<;>omega
theorem Ta (l:List Mk):((vw l).length:Int)=(pX l).length↔hi (vz l)=aj:=by
 rw[aeP];have h:=XU (vz l)
 constructor
 ·intro h1;have:vz l=[]:=List.eq_nil_of_length_eq_zero (by omega)
  rw[this];rfl
 ·intro h1;rw[h1] at h;have:vz l=[]:=by
   by_cases c:vz l=[]
   ·exact c
   ·have:=h.2 c;cases this
  rw[this];simp
theorem ai3 {x y:List Mk}:Ft (S8 x) (S8 y)=(up (hi (vz x)) (hi (vz y))).getD iz:=by
 have hx:=Ta x;have hy:=Ta y;unfold Ft S8;simp only[hx,hy];cases hi (vz x) with
 |none=>cases hi (vz y)<;>simp[up]
 |some a =>
  cases hi (vz y) with
  |none=>simp[up]
  |some b=>by_cases h:ah a b<;>simp[up,h]
theorem Uy (m:Mk):S8 [m]=m.sum:=by
 unfold S8 Mk.sum sP sI vw pX vz mh;obtain⟨t,ins,it,here,tf,tk⟩:=m;cases ins<;>cases here<;>cases tf<;>rfl
theorem ahJ (x y:List Mk) (h:GD (x++y)):(S8 x).plus (S8 y)=S8 (x++y):=by
 have hl:=h;unfold GD at hl;have h1:(xH (x.map OS)).plus (xH (y.map OS))=xH ((x++y).map OS):=by
  rw[dM];exact WZ (by rw[← dM];exact Ge afg hl)
 have h2:(xH (x.map uR)).plus (xH (y.map uR))=xH ((x++y).map uR):=by
  rw[dM];exact WZ (by rw[← dM];exact Ge ZG hl)
 have e1:vw (x++y)=vw x++vw y:=mB ..;have e2:pX (x++y)=pX x++pX y:=mB ..;have e3:vz (x++y)=vz x++vz y:=by unfold vz;rw[mB,dM]
 have e4:∀ b,mh b (x++y)=mh b x++mh b y:=fun b=>by unfold mh;rw[mB,dM]
 have l1:(vw x).length+(vw y).length≤60:=by
  have:=rD (fun m:Mk=>!m.ins) (x++y)
  rw[← bE,← e1];exact jz this hl
 have l2:(pX x).length+(pX y).length≤60:=by
  have:=rD (fun m:Mk=>!m.ins && !m.tf) (x++y)
  rw[← bE,← e2];exact jz this hl
 have h3:WY (((vw x).length:Int)+((vw y).length:Int))=((vw (x++y)).length:Int):=by
  rw[e1,bE,Ti.Ks (by omega)];push_cast;rfl
 have h4:WY (((pX x).length:Int)+((pX y).length:Int))=((pX (x++y)).length:Int):=by
  rw[e2,bE,Ti.Ks (by omega)];push_cast;rfl
 have h5:Ft (S8 x) (S8 y)=(hi (vz (x++y))).getD iz:=by rw[ai3,e3,Lg]
 have h6:=ai_ (hi (mh an x)) (hi (mh an y));have h7:=akQ (lo (mh ao x)) (lo (mh ao y));rw[← Lg,← e4] at h6;rw[← SU,← e4] at h7;unfold Sw.plus;rw[h5];unfold S8;simp only;rw[h1,h2,h3,h4,h6,h7]
theorem Ev (e x:Mk):O8.cmp e x<0↔e.t<x.t:=by simp only[O8,C0];split<;>(try split)<;>omega
theorem Cb (e x:Mk):O8.cmp e x=0↔e.t=x.t:=by simp only[O8,C0];split<;>(try split)<;>omega
theorem Rd (e x:Mk):(0<O8.cmp e x)↔x.t<e.t:=by simp only[O8,C0];split<;>(try split)<;>omega
theorem T5:Gv.zE O8 S8 GD where
 nil:=rfl
 one e:=Uy e
 plus x y h _ _:=ahJ x y h
 left x y h:=by unfold GD at *;rw[bE] at h;omega
 right x y h:=by unfold GD at *;rw[bE] at h;omega
 len x h:=by unfold GD at h;omega
 swap a b:=by rw[Ev,Rd]
 trans a b c:=by simp only[Ev];omega
 eqv a b c:=by simp only[Ev,Cb];omega
 ZE a b c:=by simp only[Ev,Cb];omega
end Wv
namespace G8
open Rx
set_option maxRecDepth 100000
abbrev Nd:=Gv.Node Wv.Mk Wv.Sw
abbrev Pl:=Gv.PM Nd
def bj (n:Nd):List Value:=[.int .i64 n.e.t,.bool n.e.ins,.int .i64 n.e.it.k,.int .i64 n.e.it.i,.bool n.e.here,.bool n.e.tf,.int .i64 n.e.tk.k,.int .i64 n.e.tk.i,.int .i64 n.l.i,.int .i64 n.l.g,.int .i64 n.r.i,.int .i64 n.r.g,.int .i64 n.all.n,.int .i64 n.all.sum.c.n,.int .i64 n.all.sum.c.s,.int .i64 n.all.sum.c.l,.int .i64 n.all.sum.w.n,.int .i64 n.all.sum.w.s,.int .i64 n.all.sum.w.l,.int .i64 n.all.sum.d,.int .i64 n.all.sum.f,.int .i64 n.all.sum.m.k,.int .i64 n.all.sum.m.i,.bool n.all.sum.gf,.int .i64 n.all.sum.g.k,.int .i64 n.all.sum.g.i,.bool n.all.sum.lf,.int .i64 n.all.sum.l.k,.int .i64 n.all.sum.l.i,.int .i64 n.h]
def bZ (p:Ie Wv.Sw):List Value:=[.int .i64 p.n,.int .i64 p.sum.c.n,.int .i64 p.sum.c.s,.int .i64 p.sum.c.l,.int .i64 p.sum.w.n,.int .i64 p.sum.w.s,.int .i64 p.sum.w.l,.int .i64 p.sum.d,.int .i64 p.sum.f,.int .i64 p.sum.m.k,.int .i64 p.sum.m.i,.bool p.sum.gf,.int .i64 p.sum.g.k,.int .i64 p.sum.g.i,.bool p.sum.lf,.int .i64 p.sum.l.k,.int .i64 p.sum.l.i]
def dt (e:Wv.Mk):List Value:=[.int .i64 e.t,.bool e.ins,.int .i64 e.it.k,.int .i64 e.it.i,.bool e.here,.bool e.tf,.int .i64 e.tk.k,.int .i64 e.tk.i]
def ky (s:Wv.Sw):List Value:=[.int .i64 s.c.n,.int .i64 s.c.s,.int .i64 s.c.l,.int .i64 s.w.n,.int .i64 s.w.s,.int .i64 s.w.l,.int .i64 s.d,.int .i64 s.f,.int .i64 s.m.k,.int .i64 s.m.i,.bool s.gf,.int .i64 s.g.k,.int .i64 s.g.i,.bool s.lf,.int .i64 s.l.k,.int .i64 s.l.i]
def fY (l:List Value):Wv.Mk:=⟨(vI (gx l 0)),(vB (gx l 1)),⟨(vI (gx l 2)),(vI (gx l 3))⟩,(vB (gx l 4)),(vB (gx l 5)),⟨(vI (gx l 6)),(vI (gx l 7))⟩⟩
def wK (l:List Value):Wv.Sw:=⟨⟨(vI (gx l 0)),(vI (gx l 1)),(vI (gx l 2))⟩,⟨(vI (gx l 3)),(vI (gx l 4)),(vI (gx l 5))⟩,(vI (gx l 6)),(vI (gx l 7)),⟨(vI (gx l 8)),(vI (gx l 9))⟩,(vB (gx l 10)),⟨(vI (gx l 11)),(vI (gx l 12))⟩,(vB (gx l 13)),⟨(vI (gx l 14)),(vI (gx l 15))⟩⟩
def pv (l:List Value):Ie Wv.Sw:=⟨(vI (gx l 0)),⟨⟨(vI (gx l 1)),(vI (gx l 2)),(vI (gx l 3))⟩,⟨(vI (gx l 4)),(vI (gx l 5)),(vI (gx l 6))⟩,(vI (gx l 7)),(vI (gx l 8)),⟨(vI (gx l 9)),(vI (gx l 10))⟩,(vB (gx l 11)),⟨(vI (gx l 12)),(vI (gx l 13))⟩,(vB (gx l 14)),⟨(vI (gx l 15)),(vI (gx l 16))⟩⟩⟩
def gh (l:List Value):Nd:=⟨⟨(vI (gx l 0)),(vB (gx l 1)),⟨(vI (gx l 2)),(vI (gx l 3))⟩,(vB (gx l 4)),(vB (gx l 5)),⟨(vI (gx l 6)),(vI (gx l 7))⟩⟩,⟨(vI (gx l 8)),(vI (gx l 9))⟩,⟨(vI (gx l 10)),(vI (gx l 11))⟩,⟨(vI (gx l 12)),⟨⟨(vI (gx l 13)),(vI (gx l 14)),(vI (gx l 15))⟩,⟨(vI (gx l 16)),(vI (gx l 17)),(vI (gx l 18))⟩,(vI (gx l 19)),(vI (gx l 20)),⟨(vI (gx l 21)),(vI (gx l 22))⟩,(vB (gx l 23)),⟨(vI (gx l 24)),(vI (gx l 25))⟩,(vB (gx l 26)),⟨(vI (gx l 27)),(vI (gx l 28))⟩⟩⟩,(vI (gx l 29))⟩
def dj:List Value:=[.int .i64 0,.bool an,.int .i64 0,.int .i64 0,.bool an,.bool an,.int .i64 0,.int .i64 0,.int .i64 0,.int .i64 0,.int .i64 0,.int .i64 0,.int .i64 0,.int .i64 0,.int .i64 0,.int .i64 0,.int .i64 0,.int .i64 0,.int .i64 0,.int .i64 0,.int .i64 0,.int .i64 0,.int .i64 0,.bool an,.int .i64 0,.int .i64 0,.bool an,.int .i64 0,.int .i64 0,.int .i64 0,.int .i64 0,.bool an]
abbrev zd:Nd:=Gv.zn Wv.O8
def cV (a:List Int) (b:List Bool) (c:List Int) (d:List Int) (e:List Bool) (f:List Bool) (g:List Int) (h:List Int) (i:List Int) (j:List Int) (k:List Int) (l:List Int) (m:List Int) (n:List Int) (o:List Int) (p:List Int) (q:List Int) (r:List Int) (s:List Int) (t:List Int) (u:List Int) (v:List Int) (w:List Int) (x:List Bool) (y:List Int) (z:List Int) (A:List Bool) (B:List Int) (C:List Int) (D:List Int) (E:List Int) (F:List Bool):List aW:=[⟨a,[],[]⟩,⟨[],b,[]⟩,⟨c,[],[]⟩,⟨d,[],[]⟩,⟨[],e,[]⟩,⟨[],f,[]⟩,⟨g,[],[]⟩,⟨h,[],[]⟩,⟨i,[],[]⟩,⟨j,[],[]⟩,⟨k,[],[]⟩,⟨l,[],[]⟩,⟨m,[],[]⟩,⟨n,[],[]⟩,⟨o,[],[]⟩,⟨p,[],[]⟩,⟨q,[],[]⟩,⟨r,[],[]⟩,⟨s,[],[]⟩,⟨t,[],[]⟩,⟨u,[],[]⟩,⟨v,[],[]⟩,⟨w,[],[]⟩,⟨[],x,[]⟩,⟨y,[],[]⟩,⟨z,[],[]⟩,⟨[],A,[]⟩,⟨B,[],[]⟩,⟨C,[],[]⟩,⟨D,[],[]⟩,⟨E,[],[]⟩,⟨[],F,[]⟩]
def cM (v:List Nd) (g:List Int) (b:List Bool):List aW:=cV (v.map fun n:Nd=>n.e.t) (v.map fun n:Nd=>n.e.ins) (v.map fun n:Nd=>n.e.it.k) (v.map fun n:Nd=>n.e.it.i) (v.map fun n:Nd=>n.e.here) (v.map fun n:Nd=>n.e.tf) (v.map fun n:Nd=>n.e.tk.k) (v.map fun n:Nd=>n.e.tk.i) (v.map fun n:Nd=>n.l.i) (v.map fun n:Nd=>n.l.g) (v.map fun n:Nd=>n.r.i) (v.map fun n:Nd=>n.r.g) (v.map fun n:Nd=>n.all.n) (v.map fun n:Nd=>n.all.sum.c.n) (v.map fun n:Nd=>n.all.sum.c.s) (v.map fun n:Nd=>n.all.sum.c.l) (v.map fun n:Nd=>n.all.sum.w.n) (v.map fun n:Nd=>n.all.sum.w.s) (v.map fun n:Nd=>n.all.sum.w.l) (v.map fun n:Nd=>n.all.sum.d) (v.map fun n:Nd=>n.all.sum.f) (v.map fun n:Nd=>n.all.sum.m.k) (v.map fun n:Nd=>n.all.sum.m.i) (v.map fun n:Nd=>n.all.sum.gf) (v.map fun n:Nd=>n.all.sum.g.k) (v.map fun n:Nd=>n.all.sum.g.i) (v.map fun n:Nd=>n.all.sum.lf) (v.map fun n:Nd=>n.all.sum.l.k) (v.map fun n:Nd=>n.all.sum.l.i) (v.map fun n:Nd=>n.h) g b
def cS (v:List Nd) (k:Nat) (x:Nd) (g:List Int) (b:List Bool):List aW:=cV ((v.map fun n:Nd=>n.e.t).set k x.e.t) ((v.map fun n:Nd=>n.e.ins).set k x.e.ins) ((v.map fun n:Nd=>n.e.it.k).set k x.e.it.k) ((v.map fun n:Nd=>n.e.it.i).set k x.e.it.i) ((v.map fun n:Nd=>n.e.here).set k x.e.here) ((v.map fun n:Nd=>n.e.tf).set k x.e.tf) ((v.map fun n:Nd=>n.e.tk.k).set k x.e.tk.k) ((v.map fun n:Nd=>n.e.tk.i).set k x.e.tk.i) ((v.map fun n:Nd=>n.l.i).set k x.l.i) ((v.map fun n:Nd=>n.l.g).set k x.l.g) ((v.map fun n:Nd=>n.r.i).set k x.r.i) ((v.map fun n:Nd=>n.r.g).set k x.r.g) ((v.map fun n:Nd=>n.all.n).set k x.all.n) ((v.map fun n:Nd=>n.all.sum.c.n).set k x.all.sum.c.n) ((v.map fun n:Nd=>n.all.sum.c.s).set k x.all.sum.c.s) ((v.map fun n:Nd=>n.all.sum.c.l).set k x.all.sum.c.l) ((v.map fun n:Nd=>n.all.sum.w.n).set k x.all.sum.w.n) ((v.map fun n:Nd=>n.all.sum.w.s).set k x.all.sum.w.s) ((v.map fun n:Nd=>n.all.sum.w.l).set k x.all.sum.w.l) ((v.map fun n:Nd=>n.all.sum.d).set k x.all.sum.d) ((v.map fun n:Nd=>n.all.sum.f).set k x.all.sum.f) ((v.map fun n:Nd=>n.all.sum.m.k).set k x.all.sum.m.k) ((v.map fun n:Nd=>n.all.sum.m.i).set k x.all.sum.m.i) ((v.map fun n:Nd=>n.all.sum.gf).set k x.all.sum.gf) ((v.map fun n:Nd=>n.all.sum.g.k).set k x.all.sum.g.k) ((v.map fun n:Nd=>n.all.sum.g.i).set k x.all.sum.g.i) ((v.map fun n:Nd=>n.all.sum.lf).set k x.all.sum.lf) ((v.map fun n:Nd=>n.all.sum.l.k).set k x.all.sum.l.k) ((v.map fun n:Nd=>n.all.sum.l.i).set k x.all.sum.l.i) ((v.map fun n:Nd=>n.h).set k x.h) g b
def cG (v:List Nd) (k:Nat) (x:Nd) (g:List Int) (b:List Bool):List aW:=cV (((v.map fun n:Nd=>n.e.t)++[0]).set k x.e.t) (((v.map fun n:Nd=>n.e.ins)++[an]).set k x.e.ins) (((v.map fun n:Nd=>n.e.it.k)++[0]).set k x.e.it.k) (((v.map fun n:Nd=>n.e.it.i)++[0]).set k x.e.it.i) (((v.map fun n:Nd=>n.e.here)++[an]).set k x.e.here) (((v.map fun n:Nd=>n.e.tf)++[an]).set k x.e.tf) (((v.map fun n:Nd=>n.e.tk.k)++[0]).set k x.e.tk.k) (((v.map fun n:Nd=>n.e.tk.i)++[0]).set k x.e.tk.i) (((v.map fun n:Nd=>n.l.i)++[0]).set k x.l.i) (((v.map fun n:Nd=>n.l.g)++[0]).set k x.l.g) (((v.map fun n:Nd=>n.r.i)++[0]).set k x.r.i) (((v.map fun n:Nd=>n.r.g)++[0]).set k x.r.g) (((v.map fun n:Nd=>n.all.n)++[0]).set k x.all.n) (((v.map fun n:Nd=>n.all.sum.c.n)++[0]).set k x.all.sum.c.n) (((v.map fun n:Nd=>n.all.sum.c.s)++[0]).set k x.all.sum.c.s) (((v.map fun n:Nd=>n.all.sum.c.l)++[0]).set k x.all.sum.c.l) (((v.map fun n:Nd=>n.all.sum.w.n)++[0]).set k x.all.sum.w.n) (((v.map fun n:Nd=>n.all.sum.w.s)++[0]).set k x.all.sum.w.s) (((v.map fun n:Nd=>n.all.sum.w.l)++[0]).set k x.all.sum.w.l) (((v.map fun n:Nd=>n.all.sum.d)++[0]).set k x.all.sum.d) (((v.map fun n:Nd=>n.all.sum.f)++[0]).set k x.all.sum.f) (((v.map fun n:Nd=>n.all.sum.m.k)++[0]).set k x.all.sum.m.k) (((v.map fun n:Nd=>n.all.sum.m.i)++[0]).set k x.all.sum.m.i) (((v.map fun n:Nd=>n.all.sum.gf)++[an]).set k x.all.sum.gf) (((v.map fun n:Nd=>n.all.sum.g.k)++[0]).set k x.all.sum.g.k) (((v.map fun n:Nd=>n.all.sum.g.i)++[0]).set k x.all.sum.g.i) (((v.map fun n:Nd=>n.all.sum.lf)++[an]).set k x.all.sum.lf) (((v.map fun n:Nd=>n.all.sum.l.k)++[0]).set k x.all.sum.l.k) (((v.map fun n:Nd=>n.all.sum.l.i)++[0]).set k x.all.sum.l.i) (((v.map fun n:Nd=>n.h)++[0]).set k x.h) g b
def gM (v:List Nd) (k:Nat):List Value:=[.int .i64 ((v.map fun n:Nd=>n.e.t).getD k 0),.bool ((v.map fun n:Nd=>n.e.ins).getD k an),.int .i64 ((v.map fun n:Nd=>n.e.it.k).getD k 0),.int .i64 ((v.map fun n:Nd=>n.e.it.i).getD k 0),.bool ((v.map fun n:Nd=>n.e.here).getD k an),.bool ((v.map fun n:Nd=>n.e.tf).getD k an),.int .i64 ((v.map fun n:Nd=>n.e.tk.k).getD k 0),.int .i64 ((v.map fun n:Nd=>n.e.tk.i).getD k 0),.int .i64 ((v.map fun n:Nd=>n.l.i).getD k 0),.int .i64 ((v.map fun n:Nd=>n.l.g).getD k 0),.int .i64 ((v.map fun n:Nd=>n.r.i).getD k 0),.int .i64 ((v.map fun n:Nd=>n.r.g).getD k 0),.int .i64 ((v.map fun n:Nd=>n.all.n).getD k 0),.int .i64 ((v.map fun n:Nd=>n.all.sum.c.n).getD k 0),.int .i64 ((v.map fun n:Nd=>n.all.sum.c.s).getD k 0),.int .i64 ((v.map fun n:Nd=>n.all.sum.c.l).getD k 0),.int .i64 ((v.map fun n:Nd=>n.all.sum.w.n).getD k 0),.int .i64 ((v.map fun n:Nd=>n.all.sum.w.s).getD k 0),.int .i64 ((v.map fun n:Nd=>n.all.sum.w.l).getD k 0),.int .i64 ((v.map fun n:Nd=>n.all.sum.d).getD k 0),.int .i64 ((v.map fun n:Nd=>n.all.sum.f).getD k 0),.int .i64 ((v.map fun n:Nd=>n.all.sum.m.k).getD k 0),.int .i64 ((v.map fun n:Nd=>n.all.sum.m.i).getD k 0),.bool ((v.map fun n:Nd=>n.all.sum.gf).getD k an),.int .i64 ((v.map fun n:Nd=>n.all.sum.g.k).getD k 0),.int .i64 ((v.map fun n:Nd=>n.all.sum.g.i).getD k 0),.bool ((v.map fun n:Nd=>n.all.sum.lf).getD k an),.int .i64 ((v.map fun n:Nd=>n.all.sum.l.k).getD k 0),.int .i64 ((v.map fun n:Nd=>n.all.sum.l.i).getD k 0),.int .i64 ((v.map fun n:Nd=>n.h).getD k 0)]
def Q' (m:Pl):Hp Empty :=
 [aa (.inl (186,[.slice (aa ⟨1,0,aa 32000⟩) m.vs.length 0,.slice (aa ⟨2,0,aa 1000⟩) m.free.length 0,.int .i64 m.held,.int .i64 m.cap,.int .i64 m.cY])),
 aa (.inr (.inl (189,⟨dj,m.vs.length,cM m.vs m.dG m.live⟩))),
 aa (.inr (.inl (3,⟨[.int .i64 0],m.free.length,[⟨m.free,[],[]⟩]⟩)))]
end G8
namespace G8
open Rx
inductive Rs
 |db (m:Pl)
def lay:Rs->Hp Empty
 |.db m=>Q' m
def L:EE Rs Empty where
 lay:=lay
 ne x:=by cases x<;>exact sZ _
 own x b X h:=by cases x<;>exact CL rfl h
 ins x:=by cases x<;>rfl
def D:fR Rs:=GK tw L
end G8
namespace Rx
open Go.RowKit State
section
variable {R R0:Type} {D0:fR R0} {L:EE R R0} {P:Program}
structure Up (L:EE R R0) (c:jo R0) (args:List Value) (hh:Hp R) (x:Out R):Prop where
 ex:∃ x0,su c ao (ma (off L hh) args) (yr L hh)/\c.go ao (ma (off L hh) args) (yr L hh)=aa x0/\x0.vc/\x0.hp=yr L x.hp/\x0.v=gr (off L x.hp) x.v
 off:Gt (fun b=>fj (Rx.off L x.hp b) (Rx.off L hh b)) hh.length=ao
 ins:tF x.hp.length x.hp=ao
theorem nK {f:FuncId} {c:jo R0} {spec:Prim R} (hc:b8 D0 P f c)
  (H:∀ args hh x,spec args hh=aa x->hh.length≤x.hp.length/\(∀ b,x.lit=aa b->x.v=.bool b)/\(x.wr=[]->x.hp=hh)/\(x.vc->Up L c args hh x)) :
  b8 (GK D0 L) P f (a9 spec):=by
 refine qm ⟨(hc ao).known,fun args hh x _ hx C ρ ft w hm hv hi=>?_,fun args hh x hx=>(H args hh x hx).1,fun args hh x hx=>(H args hh x hx).2.1,fun args hh x hx=>(H args hh x hx).2.2.1⟩
 obtain⟨_,_,_,h4⟩:=H args hh x hx;obtain⟨⟨x0,q0,q1,q2,q3,q4⟩,q5,q6⟩:=h4 hv;obtain⟨ρ1,ft1,o1,o2⟩:=hm.open_;have hargs:args.map (bV ρ)=(ma (off L hh) args).map (bV ρ1):=by
  rw[se,← lB,← lB];exact(qH (n:=hh.length) (fun b hb=>o1 b hb) args hi).symm
 rw[hargs];have kj:iJ (yr L hh).length (ma (off L hh) args)=ao:=wF (n:=hh.length) (fun b hb=>by
  have:=Ia (L:=L) hh (b:=b) (i:=0) hb (vt _)
  simpa using this) args hi
 refine((hc ao).run _ _ x0 q0 q1 C ρ1 ft1 w o2 q2 kj).mono fun e w' ⟨gF,kF,g1,g2,g3⟩=>?_
 rw[q3] at g3;refine⟨_,_,fun b hb=>?_,?_,g3.close_ q6⟩
 ·show gF (off L x.hp b)=ρ b
  have h6:off L hh b<(yr L hh).length:=by
   have:=Ia (L:=L) hh (b:=b) (i:=0) hb (vt _)
   simpa using this
  have:=Ac q5 hb;rw[Nat.eq_of_beq_eq_true this,g1 _ h6,o1 b hb]
 ·rw[g2,q4,CV]
end
end Rx
namespace Gv
open Rx
set_option linter.unusedSectionVars false
section
variable {E A:Type} (O:iX E A)
def lo (e:E) (l:List (Ref×E)):List (Ref×E):=l.takeWhile fun x=>decide (0<O.cmp e x.2)
def hi (e:E) (l:List (Ref×E)):List (Ref×E):=l.dropWhile fun x=>decide (0<O.cmp e x.2)
def uj (e:E) (l:List (Ref×E)):Option (Ref×E) :=
 match hi O e l with
 |[]=>aj
 |x::_=>if O.cmp e x.2=0 then aa x else aj
def uk (l:List (Ref×E)):Prop:=l.Pairwise fun a b=>O.cmp a.2 b.2<0
theorem AL (e:E) (l:List (Ref×E)):lo O e l++hi O e l=l:=AG
variable {O} {S:List E->A} {dm:List E->Prop} (Z:zE O S dm)
theorem Kv {α:Type} (p:α->Bool):∀ (l q:List α),(∀ x∈l,p x=ao)->(l++q).takeWhile p=l++q.takeWhile p/\(l++q).dropWhile p=q.dropWhile p
 |[],q,_=>⟨rfl,rfl⟩
 |a::l,q,h=>by
  obtain⟨h1,h2⟩:=Kv p l q fun x hx=>h x (dX _ hx)
  have ha:=h a bL;simp[te,th,ha,h1,h2]
theorem RY {α:Type} (p:α->Bool) (a:α) (q:List α) (ha:p a=an):∀ l:List α,(l++a::q).takeWhile p=l.takeWhile p/\(l++a::q).dropWhile p=l.dropWhile p++a::q
 |[]=>by simp[te,th,ha]
 |b::l=>by
  obtain⟨h1,h2⟩:=RY p a q ha l;simp only[mI,te,th];split
  ·exact⟨by rw[h1],h2⟩
  ·exact⟨rfl,rfl⟩
theorem Ui {e:E} {l q:List (Ref×E)} {r:Ref} {x:E} (h:O.cmp e x<0):lo O e (l++(r,x)::q)=lo O e l/\hi O e (l++(r,x)::q)=hi O e l++(r,x)::q :=
 RY _ _ _ (by simp;omega) _
include Z in
theorem uk.ahead {l q:List (Ref×E)} {r:Ref} {x e:E} (hs:uk O (l++(r,x)::q)) (h:0≤O.cmp e x):∀ y∈l,decide (0<O.cmp e y.2)=ao:=by
 intro y hy;have h1:O.cmp y.2 x<0:=(nX.1 hs).2.2 y hy (r,x) bL;refine decide_eq_true ((Z.swap _ _).1 ?_);rcases Int.lt_or_eq_of_le h with h2|h2
 ·exact Z.trans _ _ _ h1 ((Z.swap _ _).2 h2)
 ·exact Z.ZE _ _ _ h2.symm h1
include Z in
theorem Lv {e:E} {l q:List (Ref×E)} {r:Ref} {x:E} (hs:uk O (l++(r,x)::q)) (h:0<O.cmp e x):lo O e (l++(r,x)::q)=l++(r,x)::lo O e q/\hi O e (l++(r,x)::q)=hi O e q:=by
 obtain⟨h1,h2⟩:=Kv (fun y:Ref×E=>decide (0<O.cmp e y.2)) l ((r,x)::q) (hs.ahead Z (by omega))
 have hx:decide (0<O.cmp e x)=ao:=decide_eq_true h;unfold lo hi;rw[h1,h2,te,th,if_pos hx,if_pos hx];exact⟨rfl,rfl⟩
include Z in
theorem ZU {e:E} {l q:List (Ref×E)} {r:Ref} {x:E} (hs:uk O (l++(r,x)::q)) (h:O.cmp e x=0):lo O e (l++(r,x)::q)=l/\hi O e (l++(r,x)::q)=(r,x)::q:=by
 obtain⟨h1,h2⟩:=Kv (fun y:Ref×E=>decide (0<O.cmp e y.2)) l ((r,x)::q) (hs.ahead Z (by omega))
 have hx:¬ decide (0<O.cmp e x)=ao:=by simp;omega
 unfold lo hi;rw[h1,h2,te,th,if_neg hx,if_neg hx];simp
theorem Kc {e:E} {l q:List (Ref×E)} {r:Ref} {x:E} (h:O.cmp e x<0):uj O e (l++(r,x)::q)=uj O e l:=by
 unfold uj;rw[(Ui h).2];cases hl:hi O e l with
 |nil=>simp only[pz];rw[if_neg (by omega)]
 |cons y tl=>rfl
include Z in
theorem Kl {e:E} {l q:List (Ref×E)} {r:Ref} {x:E} (hs:uk O (l++(r,x)::q)) (h:0<O.cmp e x):uj O e (l++(r,x)::q)=uj O e q:=by
 unfold uj;rw[(Lv Z hs h).2]
include Z in
theorem Kg {e:E} {l q:List (Ref×E)} {r:Ref} {x:E} (hs:uk O (l++(r,x)::q)) (h:O.cmp e x=0):uj O e (l++(r,x)::q)=aa (r,x):=by
 unfold uj;rw[(ZU Z hs h).2];simp only;rw[if_pos h]
theorem ua {e:E} {l:List (Ref×E)} {x:Ref×E} (h:uj O e l=aa x):hi O e l=x::(hi O e l).tail/\O.cmp e x.2=0/\x∈l:=by
 unfold uj at h;split at h
 ·cases h
 ·rename_i y tl hy;split at h
  ·rename_i hc;injection h with h
   subst h;rw[hy];refine⟨rfl,hc,?_⟩;rw[← AL O e l,hy];simp
  ·cases h
theorem uk.left {l q:List (Ref×E)} (h:uk O (l++q)):uk O l:=(nX.1 h).1
theorem uk.right {l q:List (Ref×E)} (h:uk O (l++q)):uk O q:=(nX.1 h).2.1
abbrev gd (dm:List E->Prop) (l:List (Ref×E)):Prop:=dm (l.map av)
abbrev rf (l:List (Ref×E)):List Ref:=l.map ay
theorem Tr.oy (r:Ref) (l:Tr E) (e:E) (q:Tr E):(Tr.node r l e q).items=l.items++(r,e)::q.items:=rfl
include Z
theorem Q7 {n:Nat} {f:Ref} {e:E}:∀ (t:Tr E) {k:Nat} {m:Po E A},gp n m->Rp O S m t->t.mL->uk O t.items->(f::t.refs).Nodup->has m f=ao ->
  lk O m f=⟨e,r0,r0,one O e,1⟩->uj O e t.items=aj->gd dm (lo O e t.items++(f,e)::hi O e t.items)->t.h<k ->
  ∃ t',Is O S (lz O k m t.root f e).2 (lz O k m t.root f e).1 (lo O e t.items++(f,e)::hi O e t.items) t'/\t.h≤t'.h/\t'.h≤t.h+1/\iV (f::t.refs) (30*t.h+1) (zn O) m (lz O k m t.root f e).2
 |t,0,m,_,_,_,_,_,_,_,_,_,hk=>by omega
 |.nil,k+1,m,ho,hr,hb,hs,hn,hf,XX,hh,hg,hk=>by
  have h0:(lk O m (Tr.nil (E:=E)).root).h=0:=by rw[(show Rp O S m .nil from trivial).root ho];rfl
  rw[lz,if_pos h0];refine⟨.node f .nil e .nil,⟨rfl,⟨by simpa using hf,?_,trivial,trivial⟩,rfl,⟨trivial,trivial,by simp[Tr.h],by simp[Tr.h]⟩⟩,by simp[Tr.h],by simp[Tr.h],(gK _ _ _).mono (fun s hs=>by cases hs) (by omega)⟩
  rw[iE,XX,ry];simp[Tr.items,Tr.elems,Tr.h,Tr.root,one,Z.one]
 |.node r l x q,k+1,m,ho,hr,hb,hs,hn,hf,XX,hh,hg,hk=>by
  have hrt:=hr.root ho;obtain⟨sn,ni,mj,mw⟩:=hr;obtain⟨b1,b2,b3,b4⟩:=hb;have h0:¬ (lk O m r).h=0:=by rw[ni,rJ];simp only[Tr.h];omega
  simp only[Tr.root];rw[Tr.oy] at hs hh hg ⊢;rw[Tr.jW] at hn ⊢;rw[lz,if_neg h0,ni,ry];simp only[Tr.h] at hk ⊢;have kG:O.cmp e x≠0:=fun hx=>by rw[Kg Z hs hx] at hh;cases hh
  by_cases hc:O.cmp e x<0
  ·rw[if_pos hc];obtain⟨e1,e2⟩:=Ui (l:=l.items) (q:=q.items) (r:=r) hc;rw[e1,e2] at hg ⊢;rw[Kc hc] at hh;have P9:gd dm (lo O e l.items++(f,e)::hi O e l.items):=Z.left _ ((x::q.elems)) (by simpa [gd,Tr.elems] using hg)
   have hn1:(f::l.refs).Nodup:=(ch (l₂:=r::q.refs).1 (by simpa using hn)).1
   obtain⟨t',h1,h2,h3,h4⟩:=Q7 l (k:=k) (m:=aG m r) (di.2 ho) (mj.aG _) b1 hs.left hn1 (by simpa using hf) (by rw[iE];exact XX) hh P9 (by omega)
   have hu:iV (f::l.refs) (30*l.h+2) (zn O) m (lz O k (aG m r) l.root f e).2:=(gK _ m r).to h4 (fun s hs=>by simpa using hs) (by omega)
   have hrefs:t'.refs=rf (lo O e l.items)++f::rf (hi O e l.items):=by simp[Tr.refs,h1.iW]
   have VA:l.refs=rf (lo O e l.items)++rf (hi O e l.items):=by rw[Tr.refs];conv=>lhs;rw[← AL O e l.items];simp
   have hnd:(t'.refs++r::q.refs).Nodup:=by
    rw[hrefs];rw[VA] at hn;have:(rf (lo O e l.items)++f::(rf (hi O e l.items)++r::q.refs)).Nodup:=zF.nodup_iff.2 (by simpa using hn)
    simpa using this
   have hni:∀ s,s∈r::q.refs->s∉f::l.refs:=fun s hs sq=>(ch (l₁:=f::l.refs) (l₂:=r::q.refs).1 (by simpa using hn)).2.2 s sq s hs rfl
   rw[h1.root];obtain⟨u,u1,u2,u3,u4,u5⟩:=zo Z (m:=(lz O k (aG m r) l.root f e).2) (yi.2 (di.2 ho)) (r:=r) (l:=t') (q:=q)
    (v:=⟨x,t'.root,q.root,⟨(Tr.node r l x q).items.length,S (Tr.node r l x q).elems⟩,((Tr.node r l x q).h:Nat)⟩) h1.rp (Rp.frame hu (fun s hs=>hni s (by simp[hs])) mw) (by rw[hu.has];exact sn) hnd rfl rfl
    (by rw[Tr.elems,h1.iW];simpa [gd,Tr.elems] using hg) h1.mL b2 (by omega) (by omega)
   refine⟨u,⟨u1.root,u1.rp,by rw[u1.iW,h1.iW];simp,u1.mL⟩,?_,by omega,hu.to u5 (fun s hs=>?_) (by omega)⟩
   ·rcases ct (q.h+1) t'.h with hx|hx
    ·omega
    ·have:=u4 hx (by omega);omega
   ·rw[hrefs] at hs;rw[VA] at hs ⊢;simp only[bN,bY] at hs ⊢;rcases hs with(h|h|h)|(h|h|h)|h|h<;>simp[h]
  ·rw[if_neg hc];have p_:0<O.cmp e x:=by omega
   obtain⟨e1,e2⟩:=Lv Z hs p_;rw[e1,e2] at hg ⊢;rw[Kl Z hs p_] at hh;have P9:gd dm (lo O e q.items++(f,e)::hi O e q.items):=Z.right (l.elems++[x]) _ (by simpa [gd,Tr.elems] using hg)
   have va:=fP.1 hn;have hn1:(f::q.refs).Nodup:=fP.2 ⟨fun h=>va.1 (by simp[h]),(fP.1 (ch.1 va.2).2.1).2⟩
   have KO:uk O q.items:=(fL.1 hs.right).2;obtain⟨t',h1,h2,h3,h4⟩:=Q7 q (k:=k) (m:=aG m r) (di.2 ho) (mw.aG _) b2 KO hn1 (by simpa using hf) (by rw[iE];exact XX) hh P9 (by omega)
   have hu:iV (f::q.refs) (30*q.h+2) (zn O) m (lz O k (aG m r) q.root f e).2:=(gK _ m r).to h4 (fun s hs=>by simpa using hs) (by omega)
   have hrefs:t'.refs=rf (lo O e q.items)++f::rf (hi O e q.items):=by simp[Tr.refs,h1.iW]
   have VA:q.refs=rf (lo O e q.items)++rf (hi O e q.items):=by rw[Tr.refs];conv=>lhs;rw[← AL O e q.items];simp
   have hnd:(l.refs++r::t'.refs).Nodup:=by
    rw[hrefs];rw[VA] at hn;have:((l.refs++r::rf (lo O e q.items))++f::rf (hi O e q.items)).Nodup:=zF.nodup_iff.2 (by simpa using hn)
    simpa using this
   have hni:∀ s,s∈l.refs++[r]->s∉f::q.refs:=fun s hs sq=>by
    rcases bN.1 sq with rfl|sq
    ·refine va.1 ?_;rcases bY.1 hs with h|h
     ·simp[h]
     ·simp at h;simp[h]
    ·have:((l.refs++[r])++q.refs).Nodup:=by simpa using va.2
     exact(ch.1 this).2.2 s hs s sq rfl
   rw[h1.root];obtain⟨u,u1,u2,u3,u4,u5⟩:=zo Z (m:=(lz O k (aG m r) q.root f e).2) (yi.2 (di.2 ho)) (r:=r) (l:=l) (q:=t')
    (v:=⟨x,l.root,t'.root,⟨(Tr.node r l x q).items.length,S (Tr.node r l x q).elems⟩,((Tr.node r l x q).h:Nat)⟩) (Rp.frame hu (fun s hs=>hni s (by simp[hs])) mj) h1.rp (by rw[hu.has];exact sn) hnd rfl rfl
    (by rw[show t'.elems=t'.items.map av from rfl,h1.iW];simpa [gd,Tr.elems] using hg) b1 h1.mL (by omega) (by omega)
   refine⟨u,⟨u1.root,u1.rp,by rw[u1.iW,h1.iW];simp,u1.mL⟩,?_,by omega,hu.to u5 (fun s hs=>?_) (by omega)⟩
   ·rcases ct (l.h+1) t'.h with hx|hx
    ·omega
    ·have:=u4 (by omega) hx;omega
   ·rw[hrefs] at hs;rw[VA] at hs ⊢;simp only[bN,bY] at hs ⊢;rcases hs with(h|h|h)|h|h|h|h|h<;>simp[h]
end
end Gv
namespace Gv
open Rx
set_option linter.unusedSectionVars false
section
variable {E A:Type} {O:iX E A} {S:List E->A} {dm:List E->Prop} (Z:zE O S dm)
theorem Tr.wZ (r:Ref) (l:Tr E) (e:E) (q:Tr E):(Tr.node r l e q).root=r:=rfl
theorem Cs {n:Nat}:∀ (t:Tr E) {k:Nat} {m:Po E A},gp n m->Rp O S m t->t.h<k->Deep O k m t.root
 |t,0,m,_,_,hk=>by omega
 |.nil,k+1,m,ho,hr,hk=>.inl (by rw[hr.root ho];rfl)
 |.node r l x q,k+1,m,ho,⟨sn,ni,mj,mw⟩,hk=>by
  simp only[Tr.h] at hk;refine .inr ?_;simp only[Tr.root];rw[ni,ry];exact⟨Cs l ho mj (by omega),Cs q ho mw (by omega)⟩
theorem Rp.elem {m:Po E A}:∀ {t:Tr E},Rp O S m t->∀ p,p∈t.items->(lk O m p.1).e=p.2
 |.nil,_,p,hp=>by cases hp
 |.node r l x q,⟨h1,h2,h3,h4⟩,p,hp=>by
  rw[Tr.oy,bY,bN] at hp;rcases hp with hp|rfl|hp
  ·exact Rp.elem h3 p hp
  ·rw[h2];rfl
  ·exact Rp.elem h4 p hp
theorem aca {e:E} {l q:List (Ref×E)} {r:Ref} {x:E} (h:¬ 0<O.cmp e x):lo O e (l++(r,x)::q)=lo O e l/\hi O e (l++(r,x)::q)=hi O e l++(r,x)::q :=
 RY _ _ _ (by grind) _
theorem MC {n:Nat} {m:Po E A} (ho:gp n m) {t:Tr E} (h:Rp O S m t) (hr:t.root=r0):t=.nil:=by grind[ah2]
theorem aer (m:Po E A) (a b c:Ref):iV [] 3 (zn O) m (aG (aG (aG m a) b) c):=(ud m a b).to (gK _ _ c) (fun r hr=>by simp at hr) (a_ _)
include Z
theorem Hj {n:Nat} {b:Ref} {e:E}:∀ (k:Nat) (l q:Tr E) {m:Po E A},gp n m->Rp O S m l->Rp O S m q->has m b=ao->(lk O m b).e=e->(l.refs++b::q.refs).Nodup->dm (l.elems++e::q.elems)->l.mL->q.mL->l.h+q.h<k ->
  tO O k m l.root b q.root/\∃ t,Is O S (link O k m l.root b q.root).2 (link O k m l.root b q.root).1 (l.items++(b,e)::q.items) t/\max l.h q.h≤t.h/\t.h≤max l.h q.h+1/\(l.h≤q.h+1->q.h≤l.h+1->t.h=max l.h q.h+1) /\
   iV (l.refs++b::q.refs) (30*(l.h+q.h)+4) (zn O) m (link O k m l.root b q.root).2
 |0,l,q,m,_,_,_,_,_,_,_,_,_,hk=>by omega
 |k+1,l,q,m,ho,hl,hq,hb,he,l_,hg,bl,bq,hk=>by
  have k1:lk O m l.root=nd O S l:=hl.root ho;have k2:lk O m q.root=nd O S q:=hq.root ho;have hlen:=Z.len _ hg;have h1:=l.A_;have h2:=q.A_;simp only[bE,cy,Tr.fe] at hlen;have w1:W ((q.h:Int)+1)=(q.h:Int)+1:=uK (by omega)
  have w2:W ((l.h:Int)+1)=(l.h:Int)+1:=uK (by omega)
  have ho2:gp n (aG (aG m l.root) q.root):=di.2 (di.2 ho);have rN:=l_;simp only[ch,fP,bY,bN,not_or] at rN;rw[tO,link];simp only[iE,k1,k2,rJ,w1,w2]
  by_cases c1:(l.h:Int)>q.h+1
  ·rw[if_pos c1,if_pos c1];cases l with
   |nil=>simp only[Tr.h] at c1;omega
   |node a ll x lr =>
    obtain⟨zQ,BK,yQ,yY⟩:=hl;obtain⟨bl1,bl2,bl3,bl4⟩:=bl;simp only[Tr.h] at c1 hk;simp only[ry,Tr.wZ,Tr.h];rw[Tr.jW] at l_ ⊢;rw[Tr.gL] at hg;have Il:(ll.refs++a::(lr.refs++b::q.refs)).Nodup:=by simpa using l_
    obtain⟨d,t',i1,i2,i3,i4,i5⟩:=Hj k lr q (m:=aG (aG m a) q.root) (di.2 (di.2 ho)) ((yY.aG _).aG _) ((hq.aG _).aG _) (by simpa using hb) (by simpa using he) (fP.1 (ch.1 Il).2.1).2
     (Z.right (ll.elems++[x]) _ (by simpa using hg)) bl2 bq (by omega)
    have hu:=(ud (O:=O) m a q.root).to i5 (S:=lr.refs++b::q.refs) (k:=30*(lr.h+q.h)+6) (fun s hs=>by simpa using hs) (by omega)
    have um:t'.refs=lr.refs++b::q.refs:=by rw[Tr.refs,i1.iW];simp[Tr.refs]
    have wu:t'.elems=lr.elems++e::q.elems:=by rw[Tr.elems,i1.iW];simp[Tr.elems]
    have VG:∀ s,s∈ll.refs++[a]->s∉lr.refs++b::q.refs:=fun s hs sq=>by
     have:((ll.refs++[a])++(lr.refs++b::q.refs)).Nodup:=by simpa using Il
     exact(ch.1 this).2.2 s hs s sq rfl
    refine⟨d,?_⟩;rw[i1.root];obtain⟨u,u1,u2,u3,u4,u5⟩:=zo Z (m:=(link O k (aG (aG m a) q.root) lr.root b q.root).2) (yj.2 (di.2 (di.2 ho))) (r:=a) (l:=ll) (q:=t')
     (v:=⟨x,ll.root,t'.root,⟨(Tr.node a ll x lr).items.length,S (Tr.node a ll x lr).elems⟩,((Tr.node a ll x lr).h:Nat)⟩) (Rp.frame hu (fun s hs=>VG s (by simp[hs])) yQ) i1.rp (by rw[hu.has];exact zQ)
     (by rw[um];exact Il) rfl rfl (by rw[wu];simpa using hg) bl1 i1.mL (by omega) (by omega)
    simp only[Tr.h] at u4 u5 ⊢;refine⟨u,⟨u1.root,u1.rp,by rw[u1.iW,i1.iW];simp[Tr.items],u1.mL⟩,?_,?_,fun _ _=>by omega,hu.to u5 (fun s hs=>?_) (by omega)⟩
    ·rcases ct (ll.h+1) t'.h with hx|hx
     ·omega
     ·have:=u4 (by omega) hx;omega
    ·rcases ct (ll.h+1) t'.h with hx|hx
     ·omega
     ·have:=u4 (by omega) hx;omega
    ·rw[um] at hs;simp only[bY,bN] at hs ⊢;rcases hs with(h|h|h)|h|h|h|h|h<;>simp[h]
  ·rw[if_neg c1,if_neg c1]
   by_cases c2:(q.h:Int)>l.h+1
   ·rw[if_pos c2,if_pos c2];cases q with
    |nil=>simp only[Tr.h] at c2;omega
    |node a ql x qr =>
     obtain⟨sT,Gl,Yl,hq4⟩:=hq;obtain⟨bq1,bq2,bq3,bq4⟩:=bq;simp only[Tr.h] at c2 hk;simp only[ry,Tr.wZ,Tr.h];rw[Tr.jW] at l_ ⊢;rw[Tr.gL] at hg;have Il:((l.refs++b::ql.refs)++a::qr.refs).Nodup:=by simpa using l_
     obtain⟨d,t',i1,i2,i3,i4,i5⟩:=Hj k l ql (m:=aG (aG m l.root) a) (di.2 (di.2 ho)) ((hl.aG _).aG _) ((Yl.aG _).aG _) (by simpa using hb) (by simpa using he) (ch.1 Il).1
      (Z.left _ (x::qr.elems) (by simpa using hg)) bl bq1 (by omega)
     have hu:=(ud (O:=O) m l.root a).to i5 (S:=l.refs++b::ql.refs) (k:=30*(l.h+ql.h)+6) (fun s hs=>by simpa using hs) (by omega)
     have um:t'.refs=l.refs++b::ql.refs:=by rw[Tr.refs,i1.iW];simp[Tr.refs]
     have wu:t'.elems=l.elems++e::ql.elems:=by rw[Tr.elems,i1.iW];simp[Tr.elems]
     have VG:∀ s,s∈a::qr.refs->s∉l.refs++b::ql.refs:=fun s hs sq=>(ch.1 Il).2.2 s sq s hs rfl
     refine⟨d,?_⟩;rw[i1.root];obtain⟨u,u1,u2,u3,u4,u5⟩:=zo Z (m:=(link O k (aG (aG m l.root) a) l.root b ql.root).2) (yj.2 (di.2 (di.2 ho))) (r:=a) (l:=t') (q:=qr)
      (v:=⟨x,t'.root,qr.root,⟨(Tr.node a ql x qr).items.length,S (Tr.node a ql x qr).elems⟩,((Tr.node a ql x qr).h:Nat)⟩) i1.rp (Rp.frame hu (fun s hs=>VG s (by simp[hs])) hq4) (by rw[hu.has];exact sT)
      (by rw[um];exact Il) rfl rfl (by rw[wu];simpa using hg) i1.mL bq2 (by omega) (by omega)
     simp only[Tr.h] at u4 u5 ⊢;refine⟨u,⟨u1.root,u1.rp,by rw[u1.iW,i1.iW];simp[Tr.items],u1.mL⟩,?_,?_,fun _ _=>by omega,hu.to u5 (fun s hs=>?_) (by omega)⟩
     ·rcases ct (qr.h+1) t'.h with hx|hx
      ·omega
      ·have:=u4 hx (by omega);omega
     ·rcases ct (qr.h+1) t'.h with hx|hx
      ·omega
      ·have:=u4 hx (by omega);omega
     ·rw[um] at hs;simp only[bY,bN] at hs ⊢;rcases hs with(h|h|h)|(h|h|h)|h|h<;>simp[h]
   ·rw[if_neg c2,if_neg c2];refine⟨trivial,?_⟩;obtain⟨s1,s2⟩:=R_ Z (m:=aG (aG (aG m l.root) q.root) b) (r:=b) (l:=l) (q:=q) (v:=⟨(lk O m b).e,l.root,q.root,(lk O m b).all,(lk O m b).h⟩) (di.2 ho2) (((hl.aG _).aG _).aG _) (((hq.aG _).aG _).aG _) (by simpa using hb)
     (fun h=>rN.2.2 b h b (dO rfl) rfl) (fun h=>rN.2.1.1 h) rfl rfl (by simpa [he] using hg)
    simp only[he] at s1 s2 ⊢;refine⟨.node b l e q,⟨rfl,s1,rfl,⟨bl,bq,by omega,by omega⟩⟩,?_,?_,?_,(aer m l.root q.root b).to s2 (fun s hs=>by simp at hs;subst hs;simp) (by omega)⟩
    ·simp only[Tr.h];omega
    ·simp only[Tr.h];omega
    ·intro _ _;simp only[Tr.h];omega
theorem U9 {n:Nat}:∀ (t:Tr E) {k:Nat} {m:Po E A},gp n m->Rp O S m t->t.mL->t.refs.Nodup->dm t.elems->t≠.nil->t.h≤k ->
  sQ O k m t.root/\∃ f x tl t',t.items=(f,x)::tl/\Is O S (iU O k m t.root).2.2 (iU O k m t.root).1 tl t'/\(iU O k m t.root).2.1=f/\t.h≤t'.h+1/\t'.h≤t.h/\iV (rf tl) (30*t.h) (zn O) m (iU O k m t.root).2.2
 |.nil,k,m,_,_,_,_,_,hn,_=>absurd rfl hn
 |.node r l x q,0,m,_,_,_,_,_,_,hk=>by grind[Tr.h]
 |.node r l x q,k+1,m,ho,⟨sn,ni,mj,mw⟩,⟨b1,b2,b3,b4⟩,l_,hg,_,hk=>by
  simp only[Tr.h] at hk;simp only[Tr.root];rw[sQ,iU,ni,ry];rw[Tr.jW] at l_;rw[Tr.gL] at hg
  by_cases c:l.root=r0
  ·have hl:=MC ho mj c;subst hl;exact⟨trivial,r,x,q.items,q,rfl,⟨rfl,mw.aG _,rfl,b2⟩,rfl,by grind[Tr.h],by grind[Tr.h],(gK _ _ _).mono (fun s hs=>by cases hs) (by grind[Tr.h])⟩
  ·rw[if_neg c,if_neg c];have hln:l≠.nil:=fun h=>c (by rw[h];rfl)
   obtain⟨d,f,y,tl,t',i0,i1,i2,i3,i4,i5⟩:=U9 l (k:=k) (m:=aG m r) (di.2 ho) (mj.aG _) b1 (ch.1 l_).1 (Z.left _ _ hg) hln (by omega)
   have hu:=(gK (zn O) m r).to i5 (S:=rf tl) (k:=30*l.h+1) (fun s hs=>by grind) (by omega)
   have VA:l.refs=f::rf tl:=by grind[Tr.refs]
   have hle:l.elems=y::tl.map av:=by grind[Tr.elems]
   rw[VA] at l_;rw[hle] at hg;have Il:(rf tl++r::q.refs).Nodup:=(fP.1 l_).2;have um:t'.refs=rf tl:=by rw[Tr.refs,i1.iW]
   have wu:t'.elems=tl.map av:=by rw[Tr.elems,i1.iW]
   have VG:∀ s,s∈r::q.refs->s∉rf tl:=fun s hs sq=>(ch.1 Il).2.2 s sq s hs rfl
   rw[i1.root];obtain⟨u,u1,u2,u3,u4,u5⟩:=zo Z (m:=(iU O k (aG m r) l.root).2.2) (vy.2 (di.2 ho)) (r:=r) (l:=t') (q:=q)
    (v:=⟨x,t'.root,q.root,⟨(Tr.node r l x q).items.length,S (Tr.node r l x q).elems⟩,((Tr.node r l x q).h:Nat)⟩) i1.rp (Rp.frame hu (fun s hs=>VG s (by simp[hs])) mw) (by rw[hu.has];exact sn)
    (by grind) rfl rfl (by rw[wu];exact Z.right [y] _ hg) i1.mL b2 (by omega) (by omega)
   refine⟨d,f,y,tl++(r,x)::q.items,u,by grind[Tr.oy],⟨u1.root,u1.rp,by rw[u1.iW,i1.iW],u1.mL⟩,i2,?_,?_,hu.to u5 (fun s hs=>?_) (by grind[Tr.h])⟩
   ·grind[Tr.h]
   ·grind[Tr.h]
   ·rw[um] at hs;simp only[bY,bN,dM,gC,rf] at hs ⊢;rcases hs with h|h|h|h
    ·grind
    ·grind
    ·grind
    ·exact .inr (.inr h)
theorem ahN {n K:Nat} {l q:Tr E} {m:Po E A} (ho:gp n m) (hl:Rp O S m l) (hq:Rp O S m q) (l_:(l.refs++q.refs).Nodup) (hg:dm (l.elems++q.elems)) (bl:l.mL) (bq:q.mL) (hk:l.h+q.h<K) :
  D5 O K m l.root q.root/\∃ t,Is O S (glue O K m l.root q.root).2 (glue O K m l.root q.root).1 (l.items++q.items) t/\(l.h≤q.h+1->q.h≤l.h+1->max l.h q.h≤t.h)/\t.h≤max l.h q.h+1 /\
   iV (l.refs++q.refs) (30*(l.h+q.h+q.h)+4) (zn O) m (glue O K m l.root q.root).2:=by
 unfold D5 glue
 by_cases c:q.root=r0
 ·have hqn:=MC ho hq c;subst hqn;exact⟨trivial,l,⟨rfl,hl,by simp[Tr.items],bl⟩,fun _ _=>by grind[Tr.h],by omega,iV.refl _ _ _ _⟩
 ·rw[if_neg c,if_neg c];have hqn:q≠.nil:=fun h=>c (by rw[h];rfl)
  obtain⟨d,f,x,tl,t',i0,i1,i2,i3,i4,i5⟩:=U9 Z q (k:=K) (m:=m) ho hq bq (ch.1 l_).2.1 (Z.right _ _ hg) hqn (by omega)
  have hqr:q.refs=f::rf tl:=by grind[Tr.refs]
  have hqe:q.elems=x::tl.map av:=by grind[Tr.elems]
  have hf:has m f=ao:=hq.has f (by grind)
  have XX:(lk O m f).e=x:=hq.elem (f,x) (by grind)
  rw[hqr] at l_ ⊢;rw[hqe] at hg;have um:t'.refs=rf tl:=by rw[Tr.refs,i1.iW]
  have wu:t'.elems=tl.map av:=by rw[Tr.elems,i1.iW]
  have YA:f∉rf tl:=(fP.1 (ch.1 l_).2.1).1;have VG:∀ s,s∈l.refs->s∉rf tl:=fun s hs sq=>(ch.1 l_).2.2 s hs s (by simp[sq]) rfl
  rw[i1.root,i2];obtain⟨d2,u,u1,u2,u3,u4,u5⟩:=Hj Z K l t' (m:=(iU O K m q.root).2.2) (b:=f) (e:=x) (vy.2 ho) (Rp.frame i5 VG hl) i1.rp (by rw[i5.has];exact hf) (by rw[show lk O (iU O K m q.root).2.2 f=lk O m f from i5.look f YA];exact XX)
   (by grind) (by grind) bl i1.mL (by omega)
  refine⟨⟨d,d2⟩,u,⟨u1.root,u1.rp,by rw[u1.iW,i1.iW,i0],u1.mL⟩,fun h1 h2=>?_,by omega,i5.to u5 (fun s hs=>?_) (by omega)⟩
  all_goals grind
end
end Gv
namespace Gv
open Rx
set_option linter.unusedSectionVars false
section
variable {E A:Type} {O:iX E A} {S:List E->A} {dm:List E->Prop} (Z:zE O S dm)
theorem vK (e:E) (l:List (Ref×E)):aw ay (lo O e l)++aw ay (hi O e l)=aw ay l:=by grind[AL]
include Z
theorem Jd {n:Nat} {e:E}:∀ (t:Tr E) {k:Nat} {m:Po E A},gp n m->Rp O S m t->t.mL->uk O t.items->t.refs.Nodup->(∀ x,uj O e t.items=aa x->gd dm (lo O e t.items++(x.1,e)::(hi O e t.items).tail))->t.h<k ->
  match uj O e t.items with
  |none=>(replace O k m t.root e).1=an/\iV [] (2*t.h+1) (zn O) m (replace O k m t.root e).2
  |some x=>(replace O k m t.root e).1=ao/\∃ t',Is O S (replace O k m t.root e).2 t.root (lo O e t.items++(x.1,e)::(hi O e t.items).tail) t'/\t'.h=t.h/\iV t.refs (6*t.h+1) (zn O) m (replace O k m t.root e).2
 |t,0,m,_,_,_,_,_,_,hk=>by omega
 |.nil,k+1,m,ho,hr,hb,hs,hn,hg,hk=>by
  have h0:(lk O m (Tr.nil (E:=E)).root).h=0:=by rw[(show Rp O S m .nil from trivial).root ho];rfl
  rw[replace,if_pos h0];exact⟨rfl,(gK _ _ _).mono (fun s hs=>hs) (by omega)⟩
 |.node r l x q,k+1,m,ho,⟨sn,ni,mj,mw⟩,⟨b1,b2,b3,b4⟩,hs,hn,hg,hk=>by
  have h0:¬ (lk O m r).h=0:=by grind[rJ,Tr.h]
  simp only[Tr.wZ];rw[Tr.oy] at hs hg ⊢;rw[Tr.jW] at hn ⊢;rw[replace,if_neg h0,ni,ry];simp only[Tr.h] at hk ⊢;have rN:=hn;simp only[ch,fP,bY,bN,not_or] at rN
  by_cases hc:O.cmp e x<0
  ·rw[if_pos hc];obtain⟨e1,e2⟩:=Ui (l:=l.items) (q:=q.items) (r:=r) hc;rw[e1,e2,Kc hc] at hg;rw[e1,e2,Kc hc];have ih:=Jd l (k:=k) (m:=aG m r) (di.2 ho) (mj.aG _) b1 hs.left (ch.1 hn).1 (fun y hy=>Z.left _ (x::q.elems) (by
    have:=hg y hy;rw[(ua hy).1] at this
    simp_all[gd,Tr.elems])) (by omega)
   cases hh:uj O e l.items with
   |none =>
    rw[hh] at ih;obtain⟨i1,i2⟩:=ih;rw[if_neg (by grind)]
    exact⟨i1,(gK _ m r).to i2 (fun s hs=>by simp at hs) (by omega)⟩
   |some y =>
    rw[hh] at ih;obtain⟨i1,t',i2,i3,i4⟩:=ih;rw[if_pos i1];refine⟨rfl,?_⟩;have hgy:=hg y hh;have hy:=(ua hh).1;have hu:=(gK (zn O) m r).to i4 (S:=l.refs) (k:=6*l.h+2) (fun s hs=>by grind) (by omega)
    have um:t'.refs=l.refs:=by rw[Tr.refs,i2.iW,Tr.refs,← vK e l.items,hy];simp
    have wu:t'.elems=(lo O e l.items).map av++e::((hi O e l.items).tail).map av:=by rw[Tr.elems,i2.iW];simp
    have ZR:t'.root=l.root:=i2.root.symm;obtain⟨p1,p2⟩:=Ez Z (m:=(replace O k (aG m r) l.root e).2) (sj.2 (di.2 ho)) (r:=r) (l:=t') (q:=q) (v:=⟨x,l.root,q.root,⟨(Tr.node r l x q).items.length,S (Tr.node r l x q).elems⟩,((Tr.node r l x q).h:Nat)⟩) i2.rp
     (Rp.frame hu (fun s hs sq=>rN.2.2 s sq s (e_ hs) rfl) mw) (by rw[hu.has];exact sn) (by grind) (fun h=>rN.2.1.1 h) ZR.symm rfl
     (by rw[wu];rw[hy] at hgy;simpa [gd,Tr.elems] using hgy)
    refine⟨.node r t' x q,⟨rfl,p1,?_,⟨i2.mL,b2,by omega,by omega⟩⟩,by grind[Tr.h],hu.to p2 (fun s hs=>by grind) (by omega)⟩
    rw[Tr.oy,i2.iW,hy];simp
  ·rw[if_neg hc]
   by_cases p_:0<O.cmp e x
   ·rw[if_pos p_];obtain⟨e1,e2⟩:=Lv Z hs p_;rw[e1,e2,Kl Z hs p_] at hg;rw[e1,e2,Kl Z hs p_];have KO:uk O q.items:=(fL.1 hs.right).2;have ih:=Jd q (k:=k) (m:=aG m r) (di.2 ho) (mw.aG _) b2 KO (fP.1 (ch.1 hn).2.1).2 (fun y hy=>Z.right (l.elems++[x]) _ (by
     have:=hg y hy
     simp_all[gd,Tr.elems])) (by omega)
    cases hh:uj O e q.items with
    |none =>
     rw[hh] at ih;obtain⟨i1,i2⟩:=ih;rw[if_neg (by grind)]
     exact⟨i1,(gK _ m r).to i2 (fun s hs=>by simp at hs) (by omega)⟩
    |some y =>
     rw[hh] at ih;obtain⟨i1,t',i2,i3,i4⟩:=ih;rw[if_pos i1];refine⟨rfl,?_⟩;have hgy:=hg y hh;have hy:=(ua hh).1;have hu:=(gK (zn O) m r).to i4 (S:=q.refs) (k:=6*q.h+2) (fun s hs=>by grind) (by omega)
     have um:t'.refs=q.refs:=by rw[Tr.refs,i2.iW,Tr.refs,← vK e q.items,hy];simp
     have wu:t'.elems=(lo O e q.items).map av++e::((hi O e q.items).tail).map av:=by rw[Tr.elems,i2.iW];simp
     have ZR:t'.root=q.root:=i2.root.symm;obtain⟨p1,p2⟩:=Ez Z (m:=(replace O k (aG m r) q.root e).2) (sj.2 (di.2 ho)) (r:=r) (l:=l) (q:=t') (v:=⟨x,l.root,q.root,⟨(Tr.node r l x q).items.length,S (Tr.node r l x q).elems⟩,((Tr.node r l x q).h:Nat)⟩)
      (Rp.frame hu (fun s hs sq=>rN.2.2 s hs s (e_ sq) rfl) mj) i2.rp (by rw[hu.has];exact sn) (fun h=>rN.2.2 r h r (dO rfl) rfl) (by grind) rfl ZR.symm
      (by rw[wu];simpa [gd,Tr.elems] using hgy)
     refine⟨.node r l x t',⟨rfl,p1,?_,⟨b1,i2.mL,by omega,by omega⟩⟩,by grind[Tr.h],hu.to p2 (fun s hs=>by grind) (by omega)⟩
     rw[Tr.oy,i2.iW];simp
   ·rw[if_neg p_];have Sx:O.cmp e x=0:=by omega
    obtain⟨e1,e2⟩:=ZU Z hs Sx;rw[e1,e2,Kg Z hs Sx] at hg;rw[e1,e2,Kg Z hs Sx];have hgy:=hg _ rfl;obtain⟨p1,p2⟩:=Ez Z (m:=aG m r) (di.2 ho) (r:=r) (l:=l) (q:=q) (v:=⟨e,l.root,q.root,⟨(Tr.node r l x q).items.length,S (Tr.node r l x q).elems⟩,((Tr.node r l x q).h:Nat)⟩)
     (mj.aG _) (mw.aG _) (by simp[*]) (fun h=>rN.2.2 r h r (dO rfl) rfl) (fun h=>rN.2.1.1 h) rfl rfl (by simp_all[gd,Tr.elems])
    exact⟨by simp,.node r l e q,⟨rfl,p1,rfl,⟨b1,b2,b3,b4⟩⟩,by rfl,(gK _ m r).to p2 (fun s hs=>by grind) (by omega)⟩
theorem LK {n K:Nat} {e:E}:∀ (t:Tr E) {k:Nat} {m:Po E A},gp n m->Rp O S m t->t.mL->uk O t.items->t.refs.Nodup->gd dm (lo O e t.items++(hi O e t.items).tail)->t.h<k->2*t.h<K ->
  qG O K k m t.root e/\match uj O e t.items with
  |none=>(pick O K k m t.root e).2.1=r0/\(pick O K k m t.root e).1=t.root/\iV [] (2*t.h+1) (zn O) m (pick O K k m t.root e).2.2
  |some x=>(pick O K k m t.root e).2.1=x.1/\∃ t',Is O S (pick O K k m t.root e).2.2 (pick O K k m t.root e).1 (lo O e t.items++(hi O e t.items).tail) t'/\t.h≤t'.h+1/\t'.h≤t.h /\
   iV (rf (lo O e t.items++(hi O e t.items).tail)) (120*t.h+4) (zn O) m (pick O K k m t.root e).2.2
 |t,0,m,_,_,_,_,_,_,hk,_=>by omega
 |.nil,k+1,m,ho,hr,hb,hs,hn,hg,hk,hK=>by
  have h0:(lk O m (Tr.nil (E:=E)).root).h=0:=by rw[(show Rp O S m .nil from trivial).root ho];rfl
  rw[qG,pick,if_pos h0,if_pos h0];exact⟨trivial,rfl,rfl,(gK _ _ _).mono (fun s hs=>hs) (by omega)⟩
 |.node r l x q,k+1,m,ho,⟨sn,ni,mj,mw⟩,⟨b1,b2,b3,b4⟩,hs,hn,hg,hk,hK=>by
  have h0:¬ (lk O m r).h=0:=by grind[rJ,Tr.h]
  simp only[Tr.wZ];rw[Tr.oy] at hs hg ⊢;rw[Tr.jW] at hn;rw[qG,pick,if_neg h0,if_neg h0,ni,ry];simp only[Tr.h] at hk hK ⊢;have rN:=hn;simp only[ch,fP,bY,bN,not_or] at rN
  by_cases hc:O.cmp e x<0
  ·rw[if_pos hc,if_pos hc];obtain⟨e1,e2⟩:=Ui (l:=l.items) (q:=q.items) (r:=r) hc;rw[e1,e2] at hg;rw[e1,e2,Kc hc];cases hh:uj O e l.items with
   |none =>
    have KS:gd dm (lo O e l.items++(hi O e l.items).tail):=by
     cases Ka:hi O e l.items with
     |nil =>
      rw[Ka] at hg;exact Z.left _ (q.elems) (by simp_all[gd,Tr.elems])
     |cons y tl =>
      rw[Ka] at hg;exact Z.left _ (x::q.elems) (by simp_all[gd,Tr.elems])
    have ih:=LK (K:=K) l (k:=k) (m:=aG m r) (di.2 ho) (mj.aG _) b1 hs.left (ch.1 hn).1 KS (by omega) (by omega)
    rw[hh] at ih;obtain⟨d,i1,i2,i3⟩:=ih;rw[if_pos i1];exact⟨d,i1,rfl,(gK _ m r).to i3 (fun s hs=>by simp at hs) (by omega)⟩
   |some y =>
    have hy:=(ua hh).1;rw[hy] at hg;have ih:=LK (K:=K) l (k:=k) (m:=aG m r) (di.2 ho) (mj.aG _) b1 hs.left (ch.1 hn).1 (Z.left _ (x::q.elems) (by simpa [gd,Tr.elems] using hg)) (by omega) (by omega)
    rw[hh] at ih;obtain⟨d,i1,t',i2,i3,i4,i5⟩:=ih;have hyr:y.1∈l.refs:=px.2 ⟨y,(ua hh).2.2,rfl⟩;have hyn:y.1≠r0:=fun DO=>by
     have:=mj.has _ hyr;rw[DO,ho.z0] at this;cases this
    rw[if_neg (by grind)]
    have nA:∀ s,s∈rf (lo O e l.items++(hi O e l.items).tail)->s∈l.refs:=fun s hs=>by
     rw[Tr.refs,← vK e l.items,hy]
     grind
    have hu:=(gK (zn O) m r).to i5 (S:=rf (lo O e l.items++(hi O e l.items).tail)) (k:=120*l.h+5) (fun s hs=>by grind) (by omega)
    have um:t'.refs=rf (lo O e l.items++(hi O e l.items).tail):=by rw[Tr.refs,i2.iW]
    have wu:t'.elems=(lo O e l.items++(hi O e l.items).tail).map av:=by rw[Tr.elems,i2.iW]
    have GC:(rf (lo O e l.items++(hi O e l.items).tail)).Sublist l.refs:=by
     rw[Tr.refs,← vK e l.items]
     conv=>rhs;rw[hy]
     simp
    rw[i2.root];obtain⟨u,u1,u2,u3,u4,u5⟩:=zo Z (m:=(pick O K k (aG m r) l.root e).2.2) (yh.2 (di.2 ho)) (r:=r) (l:=t') (q:=q)
     (v:=⟨x,t'.root,q.root,⟨(Tr.node r l x q).items.length,S (Tr.node r l x q).elems⟩,((Tr.node r l x q).h:Nat)⟩) i2.rp (Rp.frame hu (fun s hs sq=>rN.2.2 s (nA s sq) s (e_ hs) rfl) mw)
     (by rw[hu.has];exact sn) (by grind) rfl rfl (by rw[wu];simpa [gd,Tr.elems] using hg) i2.mL b2 (by omega) (by omega)
    refine⟨d,i1,u,⟨u1.root,u1.rp,by rw[u1.iW,i2.iW,hy];simp,u1.mL⟩,?_,?_,hu.to u5 (fun s hs=>?_) (by omega)⟩
    ·omega
    ·omega
    ·rw[um] at hs;simp only[rf,dM,bY,gC,bN,mI,List.tail_cons,Tr.refs] at hs ⊢
     grind
  ·rw[if_neg hc,if_neg hc]
   by_cases p_:0<O.cmp e x
   ·rw[if_pos p_,if_pos p_];obtain⟨e1,e2⟩:=Lv Z hs p_;rw[e1,e2] at hg;rw[e1,e2,Kl Z hs p_];have KO:uk O q.items:=(fL.1 hs.right).2;have hgq:gd dm (lo O e q.items++(hi O e q.items).tail):=Z.right (l.elems++[x]) _ (by simp_all[gd,Tr.elems])
    have ih:=LK (K:=K) q (k:=k) (m:=aG m r) (di.2 ho) (mw.aG _) b2 KO (fP.1 (ch.1 hn).2.1).2 hgq (by omega) (by omega)
    cases hh:uj O e q.items with
    |none =>
     rw[hh] at ih;obtain⟨d,i1,i2,i3⟩:=ih;rw[if_pos i1];exact⟨d,i1,rfl,(gK _ m r).to i3 (fun s hs=>by simp at hs) (by omega)⟩
    |some y =>
     have hy:=(ua hh).1;rw[hh] at ih;obtain⟨d,i1,t',i2,i3,i4,i5⟩:=ih;have hyr:y.1∈q.refs:=px.2 ⟨y,(ua hh).2.2,rfl⟩;have hyn:y.1≠r0:=fun DO=>by
      have:=mw.has _ hyr;rw[DO,ho.z0] at this;cases this
     rw[if_neg (by grind)]
     have GC:(rf (lo O e q.items++(hi O e q.items).tail)).Sublist q.refs:=by
      rw[Tr.refs,← vK e q.items]
      conv=>rhs;rw[hy]
      simp
     have hu:=(gK (zn O) m r).to i5 (S:=rf (lo O e q.items++(hi O e q.items).tail)) (k:=120*q.h+5) (fun s hs=>by grind) (by omega)
     have um:t'.refs=rf (lo O e q.items++(hi O e q.items).tail):=by rw[Tr.refs,i2.iW]
     have wu:t'.elems=(lo O e q.items++(hi O e q.items).tail).map av:=by rw[Tr.elems,i2.iW]
     rw[i2.root];obtain⟨u,u1,u2,u3,u4,u5⟩:=zo Z (m:=(pick O K k (aG m r) q.root e).2.2) (yh.2 (di.2 ho)) (r:=r) (l:=l) (q:=t')
      (v:=⟨x,l.root,t'.root,⟨(Tr.node r l x q).items.length,S (Tr.node r l x q).elems⟩,((Tr.node r l x q).h:Nat)⟩) (Rp.frame hu (fun s hs sq=>rN.2.2 s hs s (e_ (GC.subset sq)) rfl) mj) i2.rp
      (by rw[hu.has];exact sn) (by grind) rfl rfl (by rw[wu];simpa [gd,Tr.elems] using hg) b1 i2.mL (by omega) (by omega)
     refine⟨d,i1,u,⟨u1.root,u1.rp,by rw[u1.iW,i2.iW];simp,u1.mL⟩,?_,?_,hu.to u5 (fun s hs=>?_) (by omega)⟩
     ·omega
     ·omega
     ·rw[um] at hs;simp only[rf,dM,bY,gC,bN,Tr.refs] at hs ⊢
      grind
   ·rw[if_neg p_,if_neg p_];have Sx:O.cmp e x=0:=by omega
    obtain⟨e1,e2⟩:=ZU Z hs Sx;rw[e1,e2] at hg;rw[e1,e2,Kg Z hs Sx];obtain⟨d,u,u1,u2,u3,u4⟩:=ahN Z (K:=K) (m:=aG m r) (di.2 ho) (mj.aG _) (mw.aG _) (adn (W0 (List.sublist_cons_self r _) _) hn) (by simp_all[gd,Tr.elems]) b1 b2 (by omega)
    refine⟨d,by simp,u,u1,by omega,by omega,(gK _ m r).to u4 (fun s hs=>?_) (by omega)⟩
    simp_all[Tr.refs]
end
end Gv
namespace Gv
open Rx
section
variable {E A:Type} (O:iX E A)
def vD:Nat->Po E A->Node E A->Int->Int->Prop
 |0,_,_,_,_=>False
 |k+1,m,n,from_,to =>
  ¬ mx from_ 0≥mn to n.all.n->¬ (mx from_ 0=0/\mn to n.all.n=n.all.n) ->
   vD k (aG m n.l) (lk O m n.l) (mx from_ 0) (mn to n.all.n) /\
   (¬ mn to n.all.n≤W ((lk O m n.l).all.n+1) ->
    vD k (aG (gj O k (aG m n.l) (lk O m n.l) (mx from_ 0) (mn to n.all.n)).2 n.r) (lk O (gj O k (aG m n.l) (lk O m n.l) (mx from_ 0) (mn to n.all.n)).2 n.r)
     (W (W (mx from_ 0-(lk O m n.l).all.n)-1)) (W (W (mn to n.all.n-(lk O m n.l).all.n)-1)))
def uv:Nat->Po E A->Node E A->E->Prop
 |0,_,_,_=>False
 |k+1,m,n,e=>n.h>0->O.cmp e n.e≠0->(O.cmp e n.e<0->uv k (aG m n.l) (lk O m n.l) e)/\(¬ O.cmp e n.e<0->uv k (aG m n.r) (lk O m n.r) e)
def tR:Nat->Po E A->Node E A->E->Int->Prop
 |0,_,_,_,_=>False
 |k+1,m,n,e,c=>n.h>0->(O.cmp e n.e≤0->tR k (aG m n.l) (lk O m n.l) e c)/\(¬ O.cmp e n.e≤0->tR k (aG m n.r) (lk O m n.r) e (W (c+W (n.all.n-(lk O m n.r).all.n))))
def B_:Nat->Po E A->Node E A->Int->Prop
 |0,_,_,_=>False
 |k+1,m,n,i=>i≠(lk O m n.l).all.n->(i<(lk O m n.l).all.n->B_ k (aG m n.l) (lk O m n.l) i) /\
  (¬ i<(lk O m n.l).all.n->B_ k (aG (aG m n.l) n.r) (lk O (aG m n.l) n.r) (W (i-W ((lk O m n.l).all.n+1))))
theorem qo {O:iX E A}:∀ {k:Nat} {m m':Po E A} {r:Ref},Deep O k m r->(∀ s,lk O m' s=lk O m s)->jt O k m' (lk O m r)
 |0,_,_,_,h,_=>h
 |k+1,m,m',r,h,hl=>by
  rcases h with h|h
  ·exact .inl h
  ·exact .inr ⟨(LA hl).2 h.1,(LA hl).2 h.2⟩
end
end Gv
namespace Gv
open Rx
section
variable {E A:Type} (O:iX E A)
def fresh (e:E):Node E A:=⟨e,r0,r0,one O e,1⟩
def oa (K:Nat) (m:Po E A) (root:Ref) (e:E):Bool×Ref×Po E A :=
 if(replace O K m root e).1=ao then(ao,root,(replace O K m root e).2)
 else if(replace O K m root e).2.held=(replace O K m root e).2.cap then(an,root,put (zn O) (replace O K m root e).2 (fresh O e))
 else(ao,(lz O K (put (zn O) (replace O K m root e).2 (fresh O e)) root (mr (zn O) (replace O K m root e).2) e).1,(lz O K (put (zn O) (replace O K m root e).2 (fresh O e)) root (mr (zn O) (replace O K m root e).2) e).2)
def QZ (K:Nat) (m:Po E A) (root:Ref) (e:E):Prop :=
 Deep O K m root/\((replace O K m root e).2.held≠(replace O K m root e).2.cap->gp 100000 (put (zn O) (replace O K m root e).2 (fresh O e))/\Deep O K (put (zn O) (replace O K m root e).2 (fresh O e)) root)
def qX (K:Nat) (m:Po E A) (root:Ref) (i:Int):(E×Bool)×Po E A :=
 if i<0∨i≥(lk O m root).all.n then((O.e0,an),aG m root)
 else(((rL O K (aG m root) (lk O m root) i).1,ao),(rL O K (aG m root) (lk O m root) i).2)
def AtD (K:Nat) (m:Po E A) (root:Ref) (i:Int):Prop:=¬ i<0->¬ i≥(lk O m root).all.n->B_ O K (aG m root) (lk O m root) i
def jV (K:Nat) (m:Po E A) (root:Ref) (e:E):E×Bool×Ref×Po E A :=
 ((lk O (pick O K K m root e).2.2 (pick O K K m root e).2.1).e,has (pick O K K m root e).2.2 (pick O K K m root e).2.1,(pick O K K m root e).1,drop (zn O) (pick O K K m root e).2.2 (pick O K K m root e).2.1)
end
end Gv
namespace Gv
open Rx
set_option linter.unusedSectionVars false
set_option maxHeartbeats 4000000
section
variable {E A:Type} {O:iX E A} {S:List E->A} {dm:List E->Prop} (Z:zE O S dm)
theorem Lf {n:Nat}:∀ (t:Tr E) {k:Nat} {m:Po E A},gp n m->Rp O S m t->t.h<k->(cx O k m t.root).1=t.elems/\∃ kk,iV [] kk (zn O) m (cx O k m t.root).2
 |t,0,m,_,_,hk=>by omega
 |.nil,k+1,m,ho,hr,hk=>by
  have h0:(lk O m (Tr.nil (E:=E)).root).h=0:=by rw[(show Rp O S m .nil from trivial).root ho];rfl
  rw[cx,if_pos h0];exact⟨rfl,_,gK _ _ _⟩
 |.node r l x q,k+1,m,ho,⟨sn,ni,mj,mw⟩,hk=>by
  have h0:¬ (lk O m r).h=0:=by grind[rJ,Tr.h]
  simp only[Tr.wZ];simp only[Tr.h] at hk;rw[cx,if_neg h0,ni,ry];obtain⟨i1,k1,i2⟩:=Lf l (k:=k) (m:=aG m r) (di.2 ho) (mj.aG _) (by omega)
  have hu:=(gK (zn O) m r).to i2 (S:=[]) (fun s hs=>by simp at hs) (a_ _)
  obtain⟨j1,k2,j2⟩:=Lf q (k:=k) (m:=(cx O k (aG m r) l.root).2) (qV.2 (di.2 ho)) (Rp.frame hu (fun s _ hs=>by cases hs) mw) (by omega)
  exact⟨by grind[Tr.gL],_,hu.to j2 (fun s hs=>by simp at hs) (a_ _)⟩
include Z
theorem UW {n K:Nat} {e:E}:∀ (t:Tr E) {k:Nat} {m:Po E A},gp n m->Rp O S m t->t.mL->uk O t.items->t.refs.Nodup->dm t.elems->t.h<k->2*t.items.length<K ->
  J8 O K k m t.root e/\∃ a b,Is O S (mi O K k m t.root e).2.2 (mi O K k m t.root e).1 (lo O e t.items) a/\Is O S (mi O K k m t.root e).2.2 (mi O K k m t.root e).2.1 (hi O e t.items) b /\
   ∃ kk,iV t.refs kk (zn O) m (mi O K k m t.root e).2.2
 |t,0,m,_,_,_,_,_,_,hk,_=>by omega
 |.nil,k+1,m,ho,hr,hb,hs,hn,hg,hk,hK=>by
  have h0:(lk O m (Tr.nil (E:=E)).root).h=0:=by rw[(show Rp O S m .nil from trivial).root ho];rfl
  rw[J8,mi,if_pos h0,if_pos h0];exact⟨trivial,.nil,.nil,⟨rfl,trivial,rfl,trivial⟩,⟨rfl,trivial,rfl,trivial⟩,_,(gK _ _ _).mono (fun s hs=>by cases hs) (a_ _)⟩
 |.node r l x q,k+1,m,ho,⟨sn,ni,mj,mw⟩,⟨b1,b2,b3,b4⟩,hs,hn,hg,hk,hK=>by
  have h0:¬ (lk O m r).h=0:=by grind[rJ,Tr.h]
  simp only[Tr.wZ];rw[Tr.oy] at hs hK ⊢;rw[Tr.jW] at hn ⊢;rw[Tr.gL] at hg;simp only[bE,cy] at hK;rw[J8,mi,if_neg h0,if_neg h0,ni,ry];simp only[Tr.h] at hk ⊢;have rN:=hn;simp only[ch,fP,bY,bN,not_or] at rN;have sT:=q.A_
  by_cases hc:O.cmp x e<0
  ·rw[if_pos hc,if_pos hc];have p_:0<O.cmp e x:=(Z.swap _ _).1 hc;obtain⟨e1,e2⟩:=Lv Z hs p_;rw[e1,e2];have KO:uk O q.items:=(fL.1 hs.right).2;obtain⟨d,a,b,i1,i2,kk,i3⟩:=UW (K:=K) q (k:=k) (m:=aG m r) (di.2 ho) (mw.aG _) b2 KO (fP.1 (ch.1 hn).2.1).2 (Z.right (l.elems++[x]) _ (by grind)) (by omega) (by omega)
   have hu:=(gK (zn O) m r).to i3 (S:=q.refs) (fun s hs=>by grind) (a_ _)
   have O':a.refs=aw ay (lo O e q.items):=by rw[Tr.refs,i1.iW]
   have qC:b.refs=aw ay (hi O e q.items):=by rw[Tr.refs,i2.iW]
   have hq':q.refs=a.refs++b.refs:=by rw[O',qC,vK];rfl
   have hae:q.elems=a.elems++b.elems:=by rw[Tr.elems,Tr.elems,Tr.elems,i1.iW,i2.iW,← dM,AL]
   have hah:=a.A_;have hal:a.items.length≤q.items.length:=by
    have:=congrArg ae (AL O e q.items);rw[bE] at this;rw[i1.iW];omega
   rw[hq'] at hn;have yt:((l.refs++r::a.refs)++b.refs).Nodup:=by grind
   rw[hae] at hg;have hg':dm (l.elems++x::a.elems):=Z.left _ b.elems (by grind)
   have hrx:(lk O (mi O K k (aG m r) q.root e).2.2 r).e=x:=by
    rw[show lk O (mi O K k (aG m r) q.root e).2.2 r=lk O m r from hu.look r (fun h=>rN.2.1.1 h),ni];rfl
   rw[i1.root];obtain⟨d2,u,u1,u2,u3,u4,u5⟩:=Hj Z K l a (m:=(mi O K k (aG m r) q.root e).2.2) (b:=r) (e:=x) (RA.2 (di.2 ho)) (Rp.frame hu (fun s hs sq=>rN.2.2 s hs s (e_ sq) rfl) mj) i1.rp
    (by rw[hu.has];exact sn) hrx (ch.1 yt).1 hg' b1 i1.mL (by omega)
   refine⟨⟨d,d2⟩,u,b,⟨u1.root,u1.rp,by rw[u1.iW,i1.iW],u1.mL⟩,⟨i2.root,Rp.frame u5 (fun s hs sq=>(ch.1 yt).2.2 s sq s hs rfl) i2.rp,i2.iW,i2.mL⟩,_,hu.to u5 (fun s hs=>?_) (a_ _)⟩
   grind
  ·rw[if_neg hc,if_neg hc];have p_:¬ 0<O.cmp e x:=fun h=>hc ((Z.swap _ _).2 h)
   obtain⟨e1,e2⟩:=aca (l:=l.items) (q:=q.items) (r:=r) p_;rw[e1,e2];obtain⟨d,a,b,i1,i2,kk,i3⟩:=UW (K:=K) l (k:=k) (m:=aG m r) (di.2 ho) (mj.aG _) b1 hs.left (ch.1 hn).1 (Z.left _ _ hg) (by omega) (by omega)
   have hu:=(gK (zn O) m r).to i3 (S:=l.refs) (fun s hs=>by grind) (a_ _)
   have O':a.refs=aw ay (lo O e l.items):=by rw[Tr.refs,i1.iW]
   have qC:b.refs=aw ay (hi O e l.items):=by rw[Tr.refs,i2.iW]
   have BJ:l.refs=a.refs++b.refs:=by rw[O',qC,vK];rfl
   have hle:l.elems=a.elems++b.elems:=by rw[Tr.elems,Tr.elems,Tr.elems,i1.iW,i2.iW,← dM,AL]
   have hbh:=b.A_;have AO:b.items.length≤l.items.length:=by
    have:=congrArg ae (AL O e l.items);rw[bE] at this;rw[i2.iW];omega
   rw[BJ] at hn;have yt:(a.refs++(b.refs++r::q.refs)).Nodup:=by grind
   rw[hle] at hg;have hg':dm (b.elems++x::q.elems):=Z.right a.elems _ (by grind)
   have hrx:(lk O (mi O K k (aG m r) l.root e).2.2 r).e=x:=by
    rw[show lk O (mi O K k (aG m r) l.root e).2.2 r=lk O m r from hu.look r (fun h=>rN.2.2 r h r (dO rfl) rfl),ni];rfl
   rw[i2.root];obtain⟨d2,u,u1,u2,u3,u4,u5⟩:=Hj Z K b q (m:=(mi O K k (aG m r) l.root e).2.2) (b:=r) (e:=x) (RA.2 (di.2 ho)) i2.rp (Rp.frame hu (fun s hs sq=>rN.2.2 s sq s (e_ hs) rfl) mw)
    (by rw[hu.has];exact sn) hrx (ch.1 yt).2.1 hg' i2.mL b2 (by omega)
   refine⟨⟨d,d2⟩,a,u,⟨i1.root,Rp.frame u5 (fun s hs sq=>(ch.1 yt).2.2 s hs s sq rfl) i1.rp,i1.iW,i1.mL⟩,⟨u1.root,u1.rp,by rw[u1.iW,i2.iW],u1.mL⟩,_,hu.to u5 (fun s hs=>?_) (a_ _)⟩
   grind
theorem Rv {n:Nat} {e:E}:∀ (t:Tr E) {k:Nat} {m:Po E A},gp n m->Rp O S m t->uk O t.items->t.h<k ->
  uv O k m (nd O S t) e/\(find O k m (nd O S t) e).1=(match uj O e t.items with
   |none=>(O.e0,an)
   |some x=>(x.2,ao))/\iV [] t.h (zn O) m (find O k m (nd O S t) e).2
 |t,0,m,_,_,_,hk=>by omega
 |.nil,k+1,m,ho,hr,hs,hk=>by
  have h0:¬ (nd O S (Tr.nil (E:=E))).h>0:=by grind[rJ,Tr.h]
  exact⟨fun h=>absurd h h0,rfl,iV.refl _ _ _ _⟩
 |.node r l x q,k+1,m,ho,⟨sn,ni,mj,mw⟩,hs,hk=>by
  have h0:(nd O S (Tr.node r l x q)).h>0:=by grind[rJ,Tr.h]
  simp only[Tr.h] at hk ⊢;rw[Tr.oy] at hs ⊢;rw[uv,find,if_pos h0,ry];have kl:lk O m l.root=nd O S l:=mj.root ho;have kq:lk O m q.root=nd O S q:=mw.root ho;simp only[kl,kq];have il:=Rv (e:=e) l (k:=k) (m:=aG m l.root) (di.2 ho) (mj.aG _) hs.left (by omega)
  have KO:uk O q.items:=(fL.1 hs.right).2;have iq:=Rv (e:=e) q (k:=k) (m:=aG m q.root) (di.2 ho) (mw.aG _) KO (by omega)
  refine⟨fun _ _=>⟨fun _=>il.1,fun _=>iq.1⟩,?_⟩
  by_cases hc:O.cmp e x=0
  ·rw[if_pos hc,Kg Z hs hc]
   grind[iV.refl]
  ·rw[if_neg hc]
   by_cases p_:O.cmp e x<0
   ·rw[if_pos p_,Kc p_];exact⟨il.2.1,(gK _ m _).to il.2.2 (fun s hs=>by simp at hs) (by omega)⟩
   ·rw[if_neg p_,Kl Z hs (by omega)]
    exact⟨iq.2.1,(gK _ m _).to iq.2.2 (fun s hs=>by simp at hs) (by omega)⟩
theorem QU {n:Nat} {e:E}:∀ (t:Tr E) {k:Nat} {m:Po E A} {c:Int},gp n m->Rp O S m t->uk O t.items->t.h<k->0≤c->c+t.items.length≤2000000 ->
  tR O k m (nd O S t) e c/\(kI O k m (nd O S t) e c).1=c+(lo O e t.items).length/\iV [] (2*t.h) (zn O) m (kI O k m (nd O S t) e c).2
 |t,0,m,c,_,_,_,hk,_,_=>by omega
 |.nil,k+1,m,c,ho,hr,hs,hk,DO,Pb=>by
  have h0:¬ (nd O S (Tr.nil (E:=E))).h>0:=by grind[rJ,Tr.h]
  rw[tR,kI,if_neg h0];exact⟨fun h=>absurd h h0,by simp[lo,Tr.items],iV.refl _ _ _ _⟩
 |.node r l x q,k+1,m,c,ho,⟨sn,ni,mj,mw⟩,hs,hk,DO,Pb=>by
  have h0:(nd O S (Tr.node r l x q)).h>0:=by grind[rJ,Tr.h]
  simp only[Tr.h] at hk ⊢;have qk:=rT (O:=O) (S:=S) Z.nil (.node r l x q);rw[Tr.oy] at hs Pb ⊢;simp only[bE,cy] at Pb;rw[tR,kI,if_pos h0];have kl:lk O m l.root=nd O S l:=mj.root ho;have kq:lk O m q.root=nd O S q:=mw.root ho;have e1:(nd O S (Tr.node r l x q)).l=l.root:=rfl;have e2:(nd O S (Tr.node r l x q)).r=q.root:=rfl;have e3:(nd O S (Tr.node r l x q)).e=x:=rfl;have hv:W (c+W ((nd O S (Tr.node r l x q)).all.n-(nd O S q).all.n))=c+(l.items.length+1:Nat):=by
   rw[qk,rT Z.nil]
   grind[Tr.oy,uK]
  rw[e1,e2,e3];simp only[kl,kq];rw[hv];have KO:uk O q.items:=(fL.1 hs.right).2;have il:=QU (e:=e) l (k:=k) (m:=aG m l.root) (c:=c) (di.2 ho) (mj.aG _) hs.left (by omega) DO (by omega)
  have iq:=QU (e:=e) q (k:=k) (m:=aG m q.root) (c:=c+(l.items.length+1:Nat)) (di.2 ho) (mw.aG _) KO (by omega) (by omega) (by omega)
  refine⟨fun _=>⟨fun _=>il.1,fun _=>iq.1⟩,?_⟩
  by_cases hc:O.cmp e x≤0
  ·rw[if_pos hc,(aca (by omega)).1]
   exact⟨il.2.1,(gK _ m _).to il.2.2 (fun s hs=>by simp at hs) (by omega)⟩
  ·rw[if_neg hc,(Lv Z hs (by omega)).1]
   refine⟨?_,(gK _ m _).to iq.2.2 (fun s hs=>by simp at hs) (by omega)⟩
   grind
theorem VU {n:Nat}:∀ (t:Tr E) {k:Nat} {m:Po E A} {i:Nat},gp n m->Rp O S m t->t.items.length≤1000000->t.h<k->i<t.items.length ->
  B_ O k m (nd O S t) i/\(rL O k m (nd O S t) i).1=t.elems.getD i O.e0/\iV [] (2*t.h) (zn O) m (rL O k m (nd O S t) i).2
 |t,0,m,i,_,_,_,hk,_=>by omega
 |.nil,k+1,m,i,ho,hr,hg,hk,hi=>by simp[Tr.items] at hi
 |.node r l x q,k+1,m,i,ho,⟨sn,ni,mj,mw⟩,hg,hk,hi=>by
  simp only[Tr.h] at hk ⊢;rw[Tr.oy] at hg hi;simp only[bE,cy] at hg hi;rw[B_,rL];have kl:lk O m l.root=nd O S l:=mj.root ho;have kq:lk O m q.root=nd O S q:=mw.root ho;have e1:(nd O S (Tr.node r l x q)).l=l.root:=rfl;have e2:(nd O S (Tr.node r l x q)).r=q.root:=rfl;have e3:(nd O S (Tr.node r l x q)).e=x:=rfl;have e4:(nd O S l).all.n=l.items.length:=by rw[rT Z.nil]
  rw[e1,e2,e3];simp only[iE,kl,kq,e4];have w1:W (((l.items.length:Nat):Int)+1)=(l.items.length:Int)+1:=uK (by omega)
  rw[w1,Tr.gL];have hle:l.elems.length=l.items.length:=Tr.fe l
  by_cases h1:(i:Int)=(l.items.length:Int)
  ·rw[if_pos h1];refine⟨fun h=>absurd h1 h,?_,(gK _ m _).mono (fun s hs=>hs) (by omega)⟩
   grind
  ·rw[if_neg h1]
   by_cases h2:(i:Int)<(l.items.length:Int)
   ·rw[if_pos h2];obtain⟨i1,i2,i3⟩:=VU l (k:=k) (m:=aG m l.root) (i:=i) (di.2 ho) (mj.aG _) (by omega) (by omega) (by omega)
    refine⟨fun _=>⟨fun _=>i1,fun h=>absurd h2 h⟩,?_,(gK _ m _).to i3 (fun s hs=>by simp at hs) (by omega)⟩
    grind
   ·rw[if_neg h2];have w2:W ((i:Int)-((l.items.length:Int)+1))=((i-(l.items.length+1):Nat):Int):=by grind[uK]
    rw[w2];obtain⟨i1,i2,i3⟩:=VU q (k:=k) (m:=aG (aG m l.root) q.root) (i:=i-(l.items.length+1)) (di.2 (di.2 ho)) ((mw.aG _).aG _) (by omega) (by omega) (by omega)
    refine⟨fun _=>⟨fun h=>absurd h h2,fun _=>i1⟩,?_,(ud m _ _).to i3 (fun s hs=>by simp at hs) (by omega)⟩
    grind
def sub (l:List E) (a b:Nat):List E:=(l.drop a).take (b-a)
omit Z in
theorem aeQ (L Q:List E) (x:E) {a b:Nat} (JI:a≤b):sub (L++x::Q) a b=sub L a b++((if a≤L.length/\L.length<b then[x] else[])++sub Q (a-(L.length+1)) (b-(L.length+1))):=by
 unfold sub;rw[List.drop_append,List.take_append]
 congr 1
 rw[List.length_drop]
 by_cases h1:a≤L.length
 ·rw[show a-L.length=0 by omega,sG,show a-(L.length+1)=0 by omega,sG]
  by_cases h2:L.length<b
  ·rw[if_pos ⟨h1,h2⟩,show b-a-(L.length-a)=(b-(L.length+1))+1 by omega,List.take_succ_cons]
   rfl
  ·rw[if_neg (by omega),show b-a-(L.length-a)=0 by omega,show b-(L.length+1)-0=0 by omega]
   simp
 ·rw[if_neg (by omega),show a-L.length=(a-(L.length+1))+1 by omega,List.drop_succ_cons,pz]
  grind
theorem aeq {l:List E} (a b:Nat) (h:dm l):dm (sub l a b):=by
 unfold sub;have h1:dm (l.drop a):=Z.right (l.take a) _ (by simp[*])
 exact Z.left _ ((l.drop a).drop (b-a)) (by grind[List.take_append_drop])
omit Z in
theorem Ob {l:List E} {a b:Nat} (h:b≤a∨l.length≤a):sub l a b=[]:=by
 unfold sub;rcases h with h|h
 all_goals simp[*]
omit Z in
theorem YP (l:List E) (a b:Nat):sub l a (min b l.length)=sub l a b:=by grind[sub,List.take_of_length_le]
def cost (h s:Nat) (f u:Int):Nat:=if(max f 0≥min u s)∨(f≤0/\u≥s) then 0 else if f≤0∨u≥s then 2*h else 4*h
omit Z in
theorem Q5 (h s:Nat) (f u:Int):cost h s f u≤4*h/\(f≤0∨u≥s->cost h s f u≤2*h)/\((max f 0≥min u s)∨(f≤0/\u≥s)->cost h s f u=0):=by
 unfold cost
 grind
omit Z in
theorem Yi {h s:Nat} {f u:Int} (h1:¬ ((max f 0≥min u s)∨(f≤0/\u≥s))):cost h s f u=if f≤0∨u≥s then 2*h else 4*h:=by simp_all[cost,if_neg]
theorem II {n:Nat}:∀ (t:Tr E) {k:Nat} {m:Po E A} {f u:Int},gp n m->Rp O S m t->dm t.elems->t.h<k ->
  vD O k m (nd O S t) f u/\(gj O k m (nd O S t) f u).1=⟨(sub t.elems f.toNat u.toNat).length,S (sub t.elems f.toNat u.toNat)⟩/\iV [] (cost t.h t.elems.length f u) (zn O) m (gj O k m (nd O S t) f u).2
 |t,0,m,f,u,_,_,_,hk=>by omega
 |.nil,k+1,m,f,u,ho,hr,hg,hk=>by
  have qk:(nd O S (Tr.nil (E:=E))).all.n=0:=rfl;have hc:mx f 0≥mn u (nd O S (Tr.nil (E:=E))).all.n:=by grind[mx,mn]
  rw[vD,gj,if_pos hc];refine⟨fun h=>absurd hc h,?_,iV.refl _ _ _ _⟩
  rw[Ob (.inr (dv _)),← Z.nil]
  rfl
 |.node r l x q,k+1,m,f,u,ho,⟨sn,ni,mj,mw⟩,hg,hk=>by
  simp only[Tr.h] at hk ⊢;have hlen:=Z.len _ hg;have qk:=rT (O:=O) (S:=S) Z.nil (.node r l x q);rw[← Tr.fe] at qk;have kl:lk O m l.root=nd O S l:=mj.root ho;have kq:lk O m q.root=nd O S q:=mw.root ho;have e1:(nd O S (Tr.node r l x q)).l=l.root:=rfl;have e2:(nd O S (Tr.node r l x q)).r=q.root:=rfl;have e3:(nd O S (Tr.node r l x q)).e=x:=rfl;have e4:(nd O S l).all.n=l.elems.length:=by rw[rT Z.nil,Tr.fe]
  rw[vD,gj,e1,e2,e3,qk];rw[Tr.gL] at hg hlen ⊢;simp only[kl,e4,D9,iE,kq];generalize hL:(l.elems++x::q.elems)=L at *
  have SM:L.length=l.elems.length+(q.elems.length+1):=by grind
  obtain⟨a,ha⟩:∃ a:Nat,mx f 0=a:=⟨f.toNat,by grind[mx]⟩
  have O':a=f.toNat:=by grind[mx]
  by_cases c1:mx f 0≥mn u L.length
  ·rw[if_pos c1];refine⟨fun h=>absurd c1 h,?_,iV.refl _ _ _ _⟩
   have:min u.toNat L.length≤a:=by grind[mn]
   rw[← YP,← O',Ob (.inl this),← Z.nil]
   rfl
  ·rw[if_neg c1];obtain⟨b,hb⟩:∃ b:Nat,mn u L.length=b:=⟨min u.toNat L.length,by grind[mn]⟩
   have qC:b=min u.toNat L.length:=by grind[mn]
   have nA:sub L f.toNat u.toNat=sub L a b:=by grind[YP]
   rw[nA];rw[ha,hb] at c1 ⊢;have JI:a<b:=by omega
   by_cases c2:(a:Int)=0/\(b:Int)=L.length
   ·rw[if_pos c2];refine⟨fun _ h=>absurd c2 h,?_,iV.refl _ _ _ _⟩
    have:sub L a b=L:=by
     unfold sub;rw[show a=0 by omega,sG,show b-0=L.length by omega,List.take_length]
    rw[this]
   ·rw[if_neg c2];have KS:dm l.elems:=Z.left _ (x::q.elems) (by grind)
    have hgq:dm q.elems:=Z.right (l.elems++[x]) _ (by grind)
    have ih1:=II l (k:=k) (m:=aG m l.root) (f:=a) (u:=b) (di.2 ho) (mj.aG _) KS (by omega)
    simp only[iS] at ih1;obtain⟨d1,v1,u1⟩:=ih1;have hu1:=(gK (zn O) m l.root).to u1 (S:=[]) (k:=cost l.h l.elems.length a b+1) (fun s hs=>by simp at hs) (by omega)
    have w1:W ((l.elems.length:Int)+1)=(l.elems.length:Int)+1:=uK (by omega)
    have w2:W (W ((a:Int)-(l.elems.length:Int))-1)=(a:Int)-l.elems.length-1:=by grind[uK]
    have w3:W (W ((b:Int)-(l.elems.length:Int))-1)=(b:Int)-l.elems.length-1:=by grind[uK]
    rw[w1,w2,w3,v1];have hsn:=aeQ l.elems q.elems x (a:=a) (b:=b) (by omega)
    rw[hL] at hsn;have hgs:=aeq Z a b hg;rw[hsn] at hgs ⊢
    have ae3:(if(a:Int)≤(l.elems.length:Int)/\(l.elems.length:Int)<(b:Int) then ef O ⟨(sub l.elems a b).length,S (sub l.elems a b)⟩ (one O x) else⟨(sub l.elems a b).length,S (sub l.elems a b)⟩) =
      ⟨(sub l.elems a b++(if a≤l.elems.length/\l.elems.length<b then[x] else[])).length,S (sub l.elems a b++(if a≤l.elems.length/\l.elems.length<b then[x] else[]))⟩:=by
     by_cases c3:a≤l.elems.length/\l.elems.length<b
     ·rw[if_pos (by omega),if_pos c3]
      rw[if_pos c3] at hgs;rw[BS Z,pM Z (Z.left _ (sub q.elems (a-(l.elems.length+1)) (b-(l.elems.length+1))) (by grind))]
     grind
    rw[ae3]
    by_cases c4:(b:Int)≤(l.elems.length:Int)+1
    ·rw[if_pos c4];refine⟨fun _ _=>⟨d1,fun h=>absurd c4 h⟩,?_,hu1.mono (fun s hs=>hs) ?_⟩
     all_goals grind[Q5,Yi,Ob]
    ·rw[if_neg c4];obtain⟨d2,v2,u2⟩:=II q (k:=k) (m:=aG (gj O k (aG m l.root) (nd O S l) a b).2 q.root) (f:=(a:Int)-l.elems.length-1) (u:=(b:Int)-l.elems.length-1) (di.2 (P5.2 (di.2 ho)))
      ((Rp.frame hu1 (fun s _ hs=>by cases hs) mw).aG _) hgq (by omega)
     refine⟨fun _ _=>⟨d1,fun _=>d2⟩,?_,(hu1.to (gK _ _ q.root) (S:=[]) (k:=cost l.h l.elems.length a b+2) (fun s hs=>by simp at hs) (by omega)).to u2 (fun s hs=>by simp at hs) ?_⟩
     ·grind[pM]
     grind[Q5,Yi]
end
end Gv
namespace Gv
open Rx
set_option linter.unusedSectionVars false
section
variable {E A:Type} {O:iX E A} {S:List E->A} {dm:List E->Prop} (Z:zE O S dm)
structure Asks (O:iX E A) (S:List E->A) (may:A->A->Bool) (P:Nat->Bool) (L:List E):Prop where
 at_:∀ p x q,p++x::q=L->P p.length=may (S p) (O.sum x)
 mon:∀ p l q,p++(l++q)=L->∀ i,p.length≤i->i<p.length+l.length->P i=ao->may (S p) (S l)=ao
def B5 (P:Nat->Bool) (a b:Nat) (from_ r:Int):Prop :=
 (r = -1/\∀ i:Nat,a≤i->i<b->from_≤i->P i=an)∨(∃ j:Nat,r=j/\a≤j/\j<b/\from_≤j/\P j=ao/\∀ i:Nat,a≤i->i<j->from_≤i->P i=an)
def EZ (P:Nat->Bool) (a b:Nat) (to r:Int):Prop :=
 (r = -1/\∀ i:Nat,a≤i->i<b->(i:Int)<to->P i=an)∨(∃ j:Nat,r=j/\a≤j/\j<b/\(j:Int)<to/\P j=ao/\∀ i:Nat,j<i->i<b->(i:Int)<to->P i=an)
include Z
theorem IV {n:Nat} {may:A->A->Bool} {P:Nat->Bool} {L:List E} {f:Int} (hA:Asks O S may P L) (hg:dm L):∀ (t:Tr E) {k:Nat} {m:Po E A} {p s:List E},gp n m->Rp O S m t->p++(t.elems++s)=L->t.h<k ->
  B5 P p.length (p.length+t.elems.length) f (first O may k m (nd O S t) ⟨p.length,S p⟩ f).1/\∃ kk,iV [] kk (zn O) m (first O may k m (nd O S t) ⟨p.length,S p⟩ f).2
 |t,0,m,p,s,_,_,_,hk=>by omega
 |.nil,k+1,m,p,s,ho,hr,hL,hk=>by
  rw[first,if_pos (.inl (by rw[rJ];rfl))]
  exact⟨.inl ⟨rfl,fun i h1 h2=>by simp[Tr.elems,Tr.items] at h2;omega⟩,0,iV.refl _ _ _ _⟩
 |.node r l x q,k+1,m,p,s,ho,⟨sn,ni,mj,mw⟩,hL,hk=>by
  simp only[Tr.h] at hk;have hlen:=Z.len _ hg;have qk:=rT (O:=O) (S:=S) Z.nil (.node r l x q);rw[← Tr.fe] at qk;have kl:lk O m l.root=nd O S l:=mj.root ho;have kq:lk O m q.root=nd O S q:=mw.root ho;have e1:(nd O S (Tr.node r l x q)).l=l.root:=rfl;have e2:(nd O S (Tr.node r l x q)).r=q.root:=rfl;have e3:(nd O S (Tr.node r l x q)).e=x:=rfl;have e5:¬ (nd O S (Tr.node r l x q)).h=0:=by rw[rJ];simp only[Tr.h];omega
  have SM:=congrArg ae hL;rw[Tr.gL] at hL;have Wp:p++(l.elems++(x::q.elems++s))=L:=by simpa using hL
  have ON:(p++l.elems)++x::(q.elems++s)=L:=by simpa using hL
  have K_:(p++l.elems++[x])++(q.elems++s)=L:=by simpa using hL
  have adI:=hA.mon p (Tr.node r l x q).elems s (by rw[Tr.gL];exact hL)
  rw[first,e1,e2,e3,qk]
  simp only[kl,lu,iE,kq,rT Z.nil,← Tr.fe];simp only[bE] at SM;have GC:(Tr.node r l x q).elems.length=l.elems.length+(q.elems.length+1):=by rw[Tr.gL];simp
  have w1:W ((p.length:Int)+((Tr.node r l x q).elems.length:Int))=(p.length:Int)+(Tr.node r l x q).elems.length:=uK (by omega)
  rw[w1]
  by_cases c1:(nd O S (Tr.node r l x q)).h=0∨(p.length:Int)+(Tr.node r l x q).elems.length≤f
  ·rw[if_pos c1];refine⟨.inl ⟨rfl,fun i h1 h2 h3=>?_⟩,0,iV.refl _ _ _ _⟩
   rcases c1 with c1|c1
   ·exact absurd c1 e5
   ·omega
  ·rw[if_neg c1]
   by_cases c2:(p.length:Int)≥f/\may (S p) (S (Tr.node r l x q).elems)=an
   ·rw[if_pos c2];refine⟨.inl ⟨rfl,fun i h1 h2 h3=>?_⟩,0,iV.refl _ _ _ _⟩
    cases hP:P i with
    |false=>rfl
    |true=>have:=adI i h1 h2 hP;rw[c2.2] at this;cases this
   ·rw[if_neg c2];obtain⟨i1,kk,i2⟩:=IV hA hg l (k:=k) (m:=aG m l.root) (p:=p) (s:=x::q.elems++s) (di.2 ho) (mj.aG _) Wp (by omega)
    have hu:=(gK (zn O) m l.root).to i2 (S:=[]) (fun s hs=>by simp at hs) (a_ _)
    by_cases c3:(first O may k (aG m l.root) (nd O S l) ⟨p.length,S p⟩ f).1≥0
    ·rw[if_pos c3];refine⟨?_,_,hu⟩;rcases i1 with⟨h1,_⟩|⟨j,h1,h2,h3,h4,h5,h6⟩
     ·omega
     ·exact .inr ⟨j,h1,h2,by omega,h4,h5,h6⟩
    ·rw[if_neg c3];have CS:∀ i:Nat,p.length≤i->i<p.length+l.elems.length->f≤i->P i=an:=by
      rcases i1 with⟨_,h⟩|⟨j,h1,_⟩
      ·exact h
      ·omega
     have KS:dm (p++l.elems):=Z.left _ (x::(q.elems++s)) (by rw[ON];exact hg)
     have Us:dm ((p++l.elems)++[x]):=Z.left _ (q.elems++s) (by rw[K_];exact hg)
     rw[pM Z KS,BS Z,pM Z Us];have hPx:=hA.at_ (p++l.elems) x (q.elems++s) ON;have Jz:(p++l.elems).length=p.length+l.elems.length:=by simp
     by_cases c4:((p++l.elems).length:Int)≥f/\may (S (p++l.elems)) (O.sum x)=ao
     ·rw[if_pos c4];refine⟨.inr ⟨(p++l.elems).length,rfl,by omega,by omega,c4.1,by rw[hPx];exact c4.2,fun i h1 h2 h3=>CS i h1 (by omega) h3⟩,_,hu⟩
     ·rw[if_neg c4];obtain⟨j1,Pr,j2⟩:=IV hA hg q (k:=k) (m:=aG (first O may k (aG m l.root) (nd O S l) ⟨p.length,S p⟩ f).2 q.root) (p:=p++l.elems++[x]) (s:=s) (di.2 (Ng.2 (di.2 ho)))
       ((Rp.frame hu (fun s _ hs=>by cases hs) mw).aG _) K_ (by omega)
      refine⟨?_,_,(hu.to (gK _ _ q.root) (S:=[]) (fun s hs=>by simp at hs) (a_ _)).to j2 (fun s hs=>by simp at hs) (a_ _)⟩
      have AX:(p++l.elems++[x]).length=p.length+l.elems.length+1:=by simp;omega
      have U5:f≤(p++l.elems).length->P (p++l.elems).length=an:=fun h=>by
       rw[hPx];cases hm:may (S (p++l.elems)) (O.sum x) with
       |false=>rfl
       |true=>exact absurd ⟨h,hm⟩ c4
      have OM:∀ i:Nat,p.length≤i->i<p.length+l.elems.length+1->f≤i->P i=an:=fun i h1 h2 h3=>by
       rcases ct i (p.length+l.elems.length) with h4|h4
       ·exact CS i h1 h4 h3
       ·have:i=(p++l.elems).length:=by omega
        rw[this];exact U5 (by omega)
      rcases j1 with⟨h1,h2⟩|⟨j,h1,h2,h3,h4,h5,h6⟩
      ·refine .inl ⟨h1,fun i g1 g2 g3=>?_⟩
       rcases ct i (p.length+l.elems.length+1) with h4|h4
       ·exact OM i g1 h4 g3
       ·exact h2 i (by rw[AX];exact h4) (by rw[AX];omega) g3
      ·rw[AX] at h2 h3 h6;refine .inr ⟨j,h1,by omega,by omega,h4,h5,fun i g1 g2 g3=>?_⟩
       rcases ct i (p.length+l.elems.length+1) with h7|h7
       ·exact OM i g1 h7 g3
       ·exact h6 i h7 g2 g3
theorem LN {n:Nat} {may:A->A->Bool} {P:Nat->Bool} {L:List E} {u:Int} (hA:Asks O S may P L) (hg:dm L):∀ (t:Tr E) {k:Nat} {m:Po E A} {p s:List E},gp n m->Rp O S m t->p++(t.elems++s)=L->t.h<k ->
  EZ P p.length (p.length+t.elems.length) u (last O may k m (nd O S t) ⟨p.length,S p⟩ u).1/\∃ kk,iV [] kk (zn O) m (last O may k m (nd O S t) ⟨p.length,S p⟩ u).2
 |t,0,m,p,s,_,_,_,hk=>by omega
 |.nil,k+1,m,p,s,ho,hr,hL,hk=>by
  rw[last,if_pos (.inl (by rw[rJ];rfl))]
  exact⟨.inl ⟨rfl,fun i h1 h2=>by simp[Tr.elems,Tr.items] at h2;omega⟩,0,iV.refl _ _ _ _⟩
 |.node r l x q,k+1,m,p,s,ho,⟨sn,ni,mj,mw⟩,hL,hk=>by
  simp only[Tr.h] at hk;have hlen:=Z.len _ hg;have qk:=rT (O:=O) (S:=S) Z.nil (.node r l x q);rw[← Tr.fe] at qk;have kl:lk O m l.root=nd O S l:=mj.root ho;have kq:lk O m q.root=nd O S q:=mw.root ho;have e1:(nd O S (Tr.node r l x q)).l=l.root:=rfl;have e2:(nd O S (Tr.node r l x q)).r=q.root:=rfl;have e3:(nd O S (Tr.node r l x q)).e=x:=rfl;have e5:¬ (nd O S (Tr.node r l x q)).h=0:=by rw[rJ];simp only[Tr.h];omega
  have SM:=congrArg ae hL;rw[Tr.gL] at hL;have Wp:p++(l.elems++(x::q.elems++s))=L:=by simpa using hL
  have ON:(p++l.elems)++x::(q.elems++s)=L:=by simpa using hL
  have K_:(p++l.elems++[x])++(q.elems++s)=L:=by simpa using hL
  have adI:=hA.mon p (Tr.node r l x q).elems s (by rw[Tr.gL];exact hL)
  rw[last,e1,e2,e3,qk];simp only[kl,mD,iE,kq,rT Z.nil,← Tr.fe];simp only[bE] at SM;have GC:(Tr.node r l x q).elems.length=l.elems.length+(q.elems.length+1):=by rw[Tr.gL];simp
  have w1:W ((p.length:Int)+((Tr.node r l x q).elems.length:Int))=(p.length:Int)+(Tr.node r l x q).elems.length:=uK (by omega)
  rw[w1]
  by_cases c1:(nd O S (Tr.node r l x q)).h=0∨(p.length:Int)≥u
  ·rw[if_pos c1];refine⟨.inl ⟨rfl,fun i h1 h2 h3=>?_⟩,0,iV.refl _ _ _ _⟩
   rcases c1 with c1|c1
   ·exact absurd c1 e5
   ·omega
  ·rw[if_neg c1]
   by_cases c2:(p.length:Int)+(Tr.node r l x q).elems.length≤u/\may (S p) (S (Tr.node r l x q).elems)=an
   ·rw[if_pos c2];refine⟨.inl ⟨rfl,fun i h1 h2 h3=>?_⟩,0,iV.refl _ _ _ _⟩
    cases hP:P i with
    |false=>rfl
    |true=>have:=adI i h1 h2 hP;rw[c2.2] at this;cases this
   ·rw[if_neg c2];have KS:dm (p++l.elems):=Z.left _ (x::(q.elems++s)) (by rw[ON];exact hg)
    have Us:dm ((p++l.elems)++[x]):=Z.left _ (q.elems++s) (by rw[K_];exact hg)
    rw[pM Z KS,BS Z,pM Z Us];obtain⟨i1,kk,i2⟩:=LN hA hg q (k:=k) (m:=aG (aG m l.root) q.root) (p:=p++l.elems++[x]) (s:=s) (di.2 (di.2 ho)) ((mw.aG _).aG _) K_ (by omega)
    have hu:=(ud (O:=O) m l.root q.root).to i2 (S:=[]) (fun s hs=>by simp at hs) (a_ _)
    have AX:(p++l.elems++[x]).length=p.length+l.elems.length+1:=by simp;omega
    have Jz:(p++l.elems).length=p.length+l.elems.length:=by simp
    have hPx:=hA.at_ (p++l.elems) x (q.elems++s) ON
    by_cases c3:(last O may k (aG (aG m l.root) q.root) (nd O S q) ⟨(p++l.elems++[x]).length,S (p++l.elems++[x])⟩ u).1≥0
    ·rw[if_pos c3];refine⟨?_,_,hu⟩;rcases i1 with⟨h1,_⟩|⟨j,h1,h2,h3,h4,h5,h6⟩
     ·omega
     ·rw[AX] at h2 h3;exact .inr ⟨j,h1,by omega,by omega,h4,h5,fun i g1 g2 g3=>h6 i g1 (by rw[AX];omega) g3⟩
    ·rw[if_neg c3];have CS:∀ i:Nat,p.length+l.elems.length+1≤i->i<p.length+(Tr.node r l x q).elems.length->(i:Int)<u->P i=an:=by
      rcases i1 with⟨_,h⟩|⟨j,h1,_⟩
      ·exact fun i g1 g2 g3=>h i (by rw[AX];exact g1) (by rw[AX];omega) g3
      ·omega
     by_cases c4:((p++l.elems).length:Int)<u/\may (S (p++l.elems)) (O.sum x)=ao
     ·rw[if_pos c4];refine⟨.inr ⟨(p++l.elems).length,rfl,by omega,by omega,c4.1,by rw[hPx];exact c4.2,fun i h1 h2 h3=>CS i (by omega) h2 h3⟩,_,hu⟩
     ·rw[if_neg c4];obtain⟨j1,Pr,j2⟩:=LN hA hg l (k:=k) (m:=(last O may k (aG (aG m l.root) q.root) (nd O S q) ⟨(p++l.elems++[x]).length,S (p++l.elems++[x])⟩ u).2) (p:=p) (s:=x::q.elems++s) (RI.2 (di.2 (di.2 ho)))
       (Rp.frame hu (fun s _ hs=>by cases hs) mj) Wp (by omega)
      refine⟨?_,_,hu.to j2 (S:=[]) (fun s hs=>by simp at hs) (a_ _)⟩
      have U5:((p++l.elems).length:Int)<u->P (p++l.elems).length=an:=fun h=>by
       rw[hPx];cases hm:may (S (p++l.elems)) (O.sum x) with
       |false=>rfl
       |true=>exact absurd ⟨h,hm⟩ c4
      have OM:∀ i:Nat,p.length+l.elems.length≤i->i<p.length+(Tr.node r l x q).elems.length->(i:Int)<u->P i=an:=fun i h1 h2 h3=>by
       rcases ct (p.length+l.elems.length) i with h4|h4
       ·exact CS i h4 h2 h3
       ·have:i=(p++l.elems).length:=by omega
        rw[this];exact U5 (by omega)
      rcases j1 with⟨h1,h2⟩|⟨j,h1,h2,h3,h4,h5,h6⟩
      ·refine .inl ⟨h1,fun i g1 g2 g3=>?_⟩
       rcases ct i (p.length+l.elems.length) with h4|h4
       ·exact h2 i g1 h4 g3
       ·exact OM i h4 g2 g3
      ·refine .inr ⟨j,h1,h2,by omega,h4,h5,fun i g1 g2 g3=>?_⟩
       rcases ct i (p.length+l.elems.length) with h7|h7
       ·exact h6 i g1 h7 g3
       ·exact OM i h7 g2 g3
end
end Gv
namespace Gv
open Rx
set_option linter.unusedSectionVars false
section
variable {E A:Type} (O:iX E A)
def oZ (e:E) (l:List E):List E:=l.takeWhile fun x=>decide (0<O.cmp e x)
def sm (e:E) (l:List E):List E:=l.dropWhile fun x=>decide (0<O.cmp e x)
def jI (e:E) (l:List E):Option E :=
 match sm O e l with
 |[]=>aj
 |x::_=>if O.cmp e x=0 then aa x else aj
def uZ (l:List E):Prop:=l.Pairwise fun a b=>O.cmp a b<0
def lF (e:E) (l:List E):List E :=
 match jI O e l with
 |none=>oZ O e l++e::sm O e l
 |some _=>oZ O e l++e::(sm O e l).tail
def nz (e:E) (l:List E):List E :=
 match jI O e l with
 |none=>l
 |some _=>oZ O e l++(sm O e l).tail
variable {O}
theorem Ho (e:E) (l:List E):oZ O e l++sm O e l=l:=AG
theorem LJ (e:E) (l:List (Ref×E)):(lo O e l).map av=oZ O e (l.map av):=by
 unfold lo oZ;rw[List.takeWhile_map]
 rfl
theorem L5 (e:E) (l:List (Ref×E)):(hi O e l).map av=sm O e (l.map av):=by
 unfold hi sm;rw[List.dropWhile_map]
 rfl
theorem Nx (e:E) (l:List (Ref×E)):(uj O e l).map av=jI O e (l.map av):=by
 grind[uj,jI,L5]
theorem xP {l:List (Ref×E)}:uZ O (l.map av)↔uk O l:=by simp_all[uZ,uk,List.pairwise_map]
theorem UL (e:E) (l:List (Ref×E)):(hi O e l).tail.map av=(sm O e (l.map av)).tail:=by
 rw[← L5,List.map_tail]
theorem xT {e y:E} {l:List E} (h:0<O.cmp e y):oZ O e (y::l)=y::oZ O e l/\sm O e (y::l)=sm O e l/\jI O e (y::l)=jI O e l/\lF O e (y::l)=y::lF O e l/\nz O e (y::l)=y::nz O e l:=by
 have h1:oZ O e (y::l)=y::oZ O e l:=by simp_all[oZ]
 have h2:sm O e (y::l)=sm O e l:=by simp_all[sm]
 have h3:jI O e (y::l)=jI O e l:=by grind[jI]
 refine⟨h1,h2,h3,?_,?_⟩
 ·unfold lF;rw[h1,h2,h3];split<;>rfl
 grind[nz]
theorem Nn {e y:E} {l:List E} (h:¬ 0<O.cmp e y):oZ O e (y::l)=[]/\sm O e (y::l)=y::l:=by simp_all[oZ,sm]
theorem Em {e y:E} {l:List E} (h:O.cmp e y=0):jI O e (y::l)=aa y/\lF O e (y::l)=e::l/\nz O e (y::l)=l:=by simp_all[Nn,jI,lF,nz]
theorem Er {e y:E} {l:List E} (h:O.cmp e y<0):jI O e (y::l)=aj/\lF O e (y::l)=e::y::l/\nz O e (y::l)=y::l:=by
 obtain⟨h1,h2⟩:=Nn (O:=O) (e:=e) (y:=y) (l:=l) (by omega)
 have h3:jI O e (y::l)=aj:=by unfold jI;grind
 grind[lF,nz]
theorem Y1 {e:E}:∀ {l:List E} {x:E},x∈lF O e l->x=e∨x∈l
 |[],x,h=>by simp_all[lF,jI,sm,oZ]
 |y::l,x,h=>by
  rcases rZ (O.cmp e y) 0 with c|c|c
  ·simp_all[Er]
  ·rw[(Em c).2.1] at h
   grind
  ·rw[(xT c).2.2.2.1] at h;rcases bN.1 h with h|h
   ·grind
   ·rcases Y1 h with h|h
    all_goals grind
theorem WB {e:E}:∀ {l:List E} {x:E},x∈nz O e l->x∈l
 |[],x,h=>by simp_all[nz,jI,sm]
 |y::l,x,h=>by
  rcases rZ (O.cmp e y) 0 with c|c|c
  ·simp_all[Er]
  ·simp_all[Em]
  ·rw[(xT c).2.2.2.2] at h;rcases bN.1 h with h|h
   ·grind
   ·exact dX _ (WB h)
theorem YH {e:E}:∀ {l:List E},(lF O e l).length=l.length+(if(jI O e l).isSome then 0 else 1)
 |[]=>by rfl
 |y::l=>by
  rcases rZ (O.cmp e y) 0 with c|c|c
  ·grind[Er]
  ·grind[Em]
  ·rw[(xT c).2.2.2.1,(xT c).2.2.1,cy,cy,YH];omega
theorem UP {e:E}:∀ {l:List E},(nz O e l).length+(if(jI O e l).isSome then 1 else 0)=l.length
 |[]=>by rfl
 |y::l=>by
  rcases rZ (O.cmp e y) 0 with c|c|c
  ·grind[Er]
  ·grind[Em]
  ·have:=UP (e:=e) (l:=l);rw[(xT c).2.2.2.2,(xT c).2.2.1,cy,cy];omega
variable {S:List E->A} {dm:List E->Prop} (Z:zE O S dm)
include Z
theorem L6 {e:E}:∀ {l:List E},uZ O l->uZ O (lF O e l)
 |[],h=>by simp[lF,jI,sm,oZ,uZ]
 |y::l,h=>by
  obtain⟨h1,h2⟩:=fL.1 h;rcases rZ (O.cmp e y) 0 with c|c|c
  ·rw[(Er c).2.1];refine fL.2 ⟨fun x hx=>?_,h⟩
   rcases bN.1 hx with hx|hx
   ·grind
   ·exact Z.trans _ _ _ c (h1 x hx)
  ·rw[(Em c).2.1];exact fL.2 ⟨fun x hx=>Z.eqv _ _ _ c (h1 x hx),h2⟩
  ·rw[(xT c).2.2.2.1];refine fL.2 ⟨fun x hx=>?_,L6 h2⟩
   rcases Y1 hx with hx|hx
   ·rw[hx];exact(Z.swap _ _).2 c
   grind
omit Z in
theorem Vu {e:E}:∀ {l:List E},uZ O l->uZ O (nz O e l)
 |[],h=>by simp[nz,jI,sm,uZ]
 |y::l,h=>by
  obtain⟨h1,h2⟩:=fL.1 h;rcases rZ (O.cmp e y) 0 with c|c|c
  ·simp_all[Er]
  ·rw[(Em c).2.2];exact h2
  ·rw[(xT c).2.2.2.2];exact fL.2 ⟨fun x hx=>h1 x (WB hx),Vu h2⟩
end
end Gv
namespace Gv
open Rx
set_option linter.unusedSectionVars false
def ns {N:Type} (k:Nat) (m m':PM N):Prop:=∃ j:Nat,j≤k/\(m'.cY=m.cY/\j=0∨m'.cY=W (m.cY+j))
theorem ns.trans {N:Type} {k k':Nat} {a b c:PM N} (h:ns k a b) (h':ns k' b c):ns (k+k') a c:=by
 obtain⟨j,hj,e⟩:=h;obtain⟨j',Mw,e'⟩:=h';refine⟨j+j',by omega,?_⟩
 rcases e with⟨e,rfl⟩|e<;>rcases e' with⟨e',rfl⟩|e'
 ·exact .inl ⟨e'.trans e,rfl⟩
 ·right;rw[e',e];congr 1;omega
 ·right;rw[e',e];congr 1
 ·right;rw[e',e,W_W];congr 1;omega
theorem ns.mono {N:Type} {k k':Nat} {a b:PM N} (h:ns k a b) (hk:k≤k'):ns k' a b:=by
 obtain⟨j,hj,e⟩:=h;exact⟨j,jz hj hk,e⟩
section
variable {E A:Type} {O:iX E A} {S:List E->A} {dm:List E->Prop}
theorem iV.v {R:List Ref} {k:Nat} {z:Node E A} {m m':Po E A} (h:iV R k z m m'):ns k m m':=h.qZ
structure St (O:iX E A) (S:List E->A) (dm:List E->Prop) (n:Nat) (m:Po E A) (a b:Tr E):Prop where
 ok:gp n m
 ra:Rp O S m a
 rb:Rp O S m b
 ba:a.mL
 bb:b.mL
 sa:uk O a.items
 sb:uk O b.items
 l_:(a.refs++b.refs).Nodup
 held:m.held=a.items.length+b.items.length
 ga:dm a.elems
 gb:dm b.elems
theorem St.swap {n:Nat} {m:Po E A} {a b:Tr E} (h:St O S dm n m a b):St O S dm n m b a :=
 ⟨h.ok,h.rb,h.ra,h.bb,h.ba,h.sb,h.sa,(List.perm_append_comm.nodup_iff).1 h.l_,by rw[h.held];omega,h.gb,h.ga⟩
theorem St.N9 {n:Nat} {m:Po E A} {a b:Tr E} (h:St O S dm n m a b):a.refs.Nodup:=(ch.1 h.l_).1
theorem St.off {n:Nat} {m:Po E A} {a b:Tr E} (h:St O S dm n m a b):∀ s,s∈b.refs->s∉a.refs:=fun s hs ha=>(ch.1 h.l_).2.2 _ ha _ hs rfl
theorem St.look {n k:Nat} {m m':Po E A} {a b:Tr E} (h:St O S dm n m a b) (hu:iV [] k (zn O) m m'):St O S dm n m' a b :=
 ⟨hu.ok h.ok,Rp.frame hu (fun s _ hs=>by cases hs) h.ra,Rp.frame hu (fun s _ hs=>by cases hs) h.rb,h.ba,h.bb,h.sa,h.sb,h.l_,by rw[hu.held];exact h.held,h.ga,h.gb⟩
theorem St.aG {n:Nat} {m:Po E A} {a b:Tr E} (h:St O S dm n m a b) (r:Ref):St O S dm n (aL m r) a b:=h.look (gK _ m r)
theorem St.mono {n k:Nat} {m:Po E A} {a b:Tr E} (h:St O S dm n m a b) (hk:n≤k):St O S dm k m a b :=
 ⟨h.ok.mono hk,h.ra,h.rb,h.ba,h.bb,h.sa,h.sb,h.l_,h.held,h.ga,h.gb⟩
theorem St.first {n k:Nat} {m m':Po E A} {a a' b:Tr E} {root:Ref} {iW:List (Ref×E)} {R:List Ref} (h:St O S dm n m a b) (hi:Is O S m' root iW a') (hu:iV R k (zn O) m m') (hR:∀ s,s∈R->s∈a.refs)
  (zw:∀ s,s∈a'.refs->s∈a.refs) (hnd:a'.refs.Nodup) (hlen:a'.items.length=a.items.length) (hs:uZ O a'.elems) (hg:dm a'.elems):St O S dm n m' a' b :=
 ⟨hu.ok h.ok,hi.rp,Rp.frame hu (fun s hs hr=>h.off s hs (hR s hr)) h.rb,hi.mL,h.bb,xP.1 hs,h.sb,
  ch.2 ⟨hnd,(ch.1 h.l_).2.1,fun x hx y hy e=>by subst e;exact h.off x hy (zw x hx)⟩,by rw[hu.held,h.held,hlen],hg,h.gb⟩
theorem St.empty (hg:dm []) (c:Int) (n:Nat):St O S dm n ⟨[],[],[],[],0,c,0⟩ .nil .nil :=
 ⟨⟨rfl,rfl,(fun f hf=>by cases hf),Sd,dv _,dv _,(fun g hg=>by cases hg),(fun i hi=>by simp at hi),⟨by simp only;omega,by simp only;omega⟩⟩,trivial,trivial,trivial,trivial,r9,r9,Sd,rfl,hg,hg⟩
def RG (x y:List (Ref×E)) (r:Ref):List Ref:=x.map ay++r::y.map ay
theorem ake {e:E} {r:Ref} {x:Ref×E} {l:List (Ref×E)} (h:uj O e l=aa x):(lo O e l++(x.1,e)::(hi O e l).tail).map ay=l.map ay:=by
 have h1:=(ua h).1
 conv=>rhs;rw[← AL O e l,h1]
 simp
variable (Z:zE O S dm)
include Z
theorem alb {n K:Nat} {e:E} {m:Po E A} {a b:Tr E} (h:St O S dm n m a b) (hn:n+1≤100000) (hg:dm (lF O e a.elems)) (hk:a.h<K) :
  QZ O K m a.root e/\(oa O K m a.root e).1=((jI O e a.elems).isSome||decide (m.held≠m.cap)) /\
   ∃ a',(oa O K m a.root e).2.1=a'.root/\St O S dm (n+1) (oa O K m a.root e).2.2 a' b/\a'.elems=(if((jI O e a.elems).isSome||decide (m.held≠m.cap))=ao then lF O e a.elems else a.elems) /\
    ns (32*a.h+4) m (oa O K m a.root e).2.2/\(oa O K m a.root e).2.2.cap=m.cap:=by
 have hD:=Cs a h.ok h.ra hk;have hE:(uj O e a.items).map av=jI O e a.elems:=Nx e a.items;have AP:(lo O e a.items).map av=oZ O e a.elems:=LJ e a.items;have Ka:(hi O e a.items).map av=sm O e a.elems:=L5 e a.items;have Gr:(hi O e a.items).tail.map av=(sm O e a.elems).tail:=UL e a.items;have SX:=L6 Z (e:=e) (xP.2 h.sa:uZ O a.elems);have R:=Jd Z (e:=e) a (k:=K) h.ok h.ra h.ba h.sa h.N9 (fun x hx=>by
  have:jI O e a.elems=aa x.2:=by rw[← hE,hx];rfl
  unfold lF at hg;rw[this] at hg;rw[gd,dM,gC,AP,Gr];exact hg) hk
 cases hh:uj O e a.items with
 |some x =>
  rw[hh] at R hE;obtain⟨r1,a',r2,r3,r4⟩:=R;have hE:jI O e a.elems=aa x.2:=hE.symm;have e1:oa O K m a.root e=(ao,a.root,(replace O K m a.root e).2):=by rw[oa,if_pos r1]
  have e2:a'.elems=lF O e a.elems:=by
   rw[Tr.elems,r2.iW,dM,gC,AP,Gr];unfold lF;rw[hE]
  have e3:a'.refs=a.refs:=by rw[Tr.refs,r2.iW];exact ake (r:=r0) hh
  refine⟨⟨hD,fun hc=>?_⟩,by rw[e1,hE];rfl,a',by rw[e1];exact r2.root,?_,?_,?_,by rw[e1];exact r4.cap⟩
  ·have hp:=tU (zn O) (r4.ok h.ok) hc (fresh O e);refine⟨hp.2.mono hn,?_⟩;have hf:∀ t:Tr E,Rp O S (replace O K m a.root e).2 t->Rp O S (put (zn O) (replace O K m a.root e).2 (fresh O e)) t:=by
    intro t
    induction t with
    |nil=>exact fun _=>trivial
    |node r l y q ihl ihq =>
     intro⟨q1,q2,q3,q4⟩;have:=hp.1.old r q1;exact⟨this.1,by rw[lk,this.2];exact q2,ihl q3,ihq q4⟩
   have:=Cs a' (k:=K) hp.2 (hf a' r2.rp) (by omega)
   rw[← r2.root] at this;exact this
  ·rw[e1];refine(h.first r2 r4 (fun s hs=>hs) (fun s hs=>by rw[e3] at hs;exact hs) (by rw[e3];exact h.N9) (by rw[← Tr.Mu,e3,Tr.Mu]) (by rw[e2];exact SX) (by rw[e2];exact hg)).mono (by omega)
  ·rw[e2,hE];rfl
  ·rw[e1];exact r4.v.mono (by omega)
 |none =>
  rw[hh] at R hE;obtain⟨r1,r2⟩:=R;have hE:jI O e a.elems=aj:=hE.symm;have h2:=h.look r2;have hup:lF O e a.elems=oZ O e a.elems++e::sm O e a.elems:=by unfold lF;rw[hE]
  by_cases hc:(replace O K m a.root e).2.held=(replace O K m a.root e).2.cap
  ·have DN:m.held=m.cap:=by rw[← r2.held,← r2.cap,hc]
   have ep:put (zn O) (replace O K m a.root e).2 (fresh O e)=(replace O K m a.root e).2:=by unfold put;rw[if_pos hc]
   have e1:oa O K m a.root e=(an,a.root,(replace O K m a.root e).2):=by rw[oa,if_neg (by rw[r1];decide),if_pos hc,ep]
   have e4:((jI O e a.elems).isSome||decide (m.held≠m.cap))=an:=by rw[hE];simpa using DN
   refine⟨⟨hD,fun hx=>absurd hc hx⟩,by rw[e1,e4],a,by rw[e1],by rw[e1];exact h2.mono (by omega),by rw[e4,if_neg (by decide)],by rw[e1];exact r2.v.mono (by omega),by rw[e1];exact r2.cap⟩
  ·have DN:m.held≠m.cap:=by rw[← r2.held,← r2.cap];exact hc
   obtain⟨p1,p2⟩:=tU (zn O) h2.ok hc (fresh O e);have hf:∀ t:Tr E,Rp O S (replace O K m a.root e).2 t->Rp O S (put (zn O) (replace O K m a.root e).2 (fresh O e)) t:=by
    intro t
    induction t with
    |nil=>exact fun _=>trivial
    |node r l y q ihl ihq =>
     intro⟨q1,q2,q3,q4⟩;have:=p1.old r q1;exact⟨this.1,by rw[lk,this.2];exact q2,ihl q3,ihq q4⟩
   have uM:∀ t:Tr E,Rp O S (replace O K m a.root e).2 t->mr (zn O) (replace O K m a.root e).2∉t.refs:=fun t ht hr=>by
    have:=ht.has _ hr;rw[p1.new] at this;cases this
   have hnd:(mr (zn O) (replace O K m a.root e).2::a.refs).Nodup:=fP.2 ⟨uM a h2.ra,h.N9⟩;obtain⟨t',t1,t2,t3,t4⟩:=Q7 Z (f:=mr (zn O) (replace O K m a.root e).2) (e:=e) a (k:=K) p2 (hf a h2.ra) h.ba h.sa hnd p1.has (by rw[lk,p1.look];rfl) hh
    (by rw[gd,dM,gC,AP,Ka,← hup];exact hg) hk
   have e1:oa O K m a.root e=(ao,(lz O K (put (zn O) (replace O K m a.root e).2 (fresh O e)) a.root (mr (zn O) (replace O K m a.root e).2) e).1,(lz O K (put (zn O) (replace O K m a.root e).2 (fresh O e)) a.root (mr (zn O) (replace O K m a.root e).2) e).2):=by
    rw[oa,if_neg (by rw[r1];decide),if_neg hc]
   have e4:((jI O e a.elems).isSome||decide (m.held≠m.cap))=ao:=by rw[hE];simpa using DN
   have e2:t'.elems=lF O e a.elems:=by rw[Tr.elems,t1.iW,dM,gC,AP,Ka,hup]
   have e5:t'.refs=RG (lo O e a.items) (hi O e a.items) (mr (zn O) (replace O K m a.root e).2):=by rw[Tr.refs,t1.iW,dM,gC];rfl
   refine⟨⟨hD,fun _=>⟨p2.mono hn,Cs a p2 (hf a h2.ra) hk⟩⟩,by rw[e1,e4],t',by rw[e1];exact t1.root,?_,by rw[e4,if_pos rfl];exact e2,?_,by rw[e1];exact t4.cap.trans (p1.cap.trans r2.cap)⟩
   ·rw[e1];have hrf:=vK (O:=O) e a.items;have UI:∀ s,s∈t'.refs↔s=mr (zn O) (replace O K m a.root e).2∨s∈a.refs:=fun s=>by
     rw[e5,Tr.refs,← hrf];unfold RG;simp only[bY,bN]
     constructor
     ·rintro (h|h|h)<;>simp[h]
     ·rintro (h|h|h)<;>simp[h]
    refine⟨t4.ok p2,t1.rp,Rp.frame t4 (fun s hs hr=>?_) (hf b h2.rb),t1.mL,h.bb,xP.1 (by rw[show t'.items.map av=t'.elems from rfl,e2];exact SX),h.sb,?_,?_,by rw[e2];exact hg,h.gb⟩
    ·rcases bN.1 hr with hr|hr
     ·exact uM b h2.rb (by rw[← hr];exact hs)
     ·exact h.off s hs hr
    ·refine ch.2 ⟨?_,(ch.1 h.l_).2.1,fun x hx y hy e=>?_⟩
     ·rw[e5];unfold RG;refine(zF.nodup_iff).2 ?_;rw[hrf];exact hnd
     ·subst e;rcases(UI x).1 hx with hr|hr
      ·exact uM b h2.rb (by rw[← hr];exact hy)
      ·exact h.off x hy hr
    ·have hl:t'.items.length=a.items.length+1:=by
      have:=YH (O:=O) (e:=e) (l:=a.elems);rw[hE] at this;rw[← Tr.fe,e2,this,Tr.fe]
      rfl
     rw[t4.held,p1.held,h2.held,hl];omega
   ·rw[e1];have:ns 0 (replace O K m a.root e).2 (put (zn O) (replace O K m a.root e).2 (fresh O e)):=⟨0,a_ _,.inl ⟨p1.qZ,rfl⟩⟩;exact((r2.v.trans this).trans t4.v).mono (by omega)
end
end Gv
namespace Gv
open Rx
set_option linter.unusedSectionVars false
section
variable {E A:Type} {O:iX E A} {S:List E->A} {dm:List E->Prop}
theorem agR {e:E} {x:Ref×E} {l:List (Ref×E)} (h:uj O e l=aa x):(x.1::rf (lo O e l++(hi O e l).tail)).Perm (l.map ay):=by
 have h1:=(ua h).1;have h2:l.map ay=(lo O e l).map ay++x.1::(hi O e l).tail.map ay:=by
  conv=>lhs;rw[← AL O e l,h1]
  simp
 rw[h2];unfold rf;rw[dM];exact zF.symm
theorem acO {m:Po E A} {z:Node E A} {r:Ref} (h:has m r=an):drop z m r=m:=by unfold drop;rw[if_neg (by rw[h];decide)]
variable (Z:zE O S dm)
include Z
theorem agN {n K:Nat} {e:E} {m:Po E A} {a b:Tr E} (h:St O S dm n m a b) (hg:dm (oZ O e a.elems++(sm O e a.elems).tail)) (hk:2*a.h<K) :
  qG O K K m a.root e/\(jV O K m a.root e).1=(jI O e a.elems).getD O.e0/\(jV O K m a.root e).2.1=(jI O e a.elems).isSome /\
   ∃ a',(jV O K m a.root e).2.2.1=a'.root/\St O S dm (n+1) (jV O K m a.root e).2.2.2 a' b/\a'.elems=nz O e a.elems /\
    ns (120*a.h+5) m (jV O K m a.root e).2.2.2/\(jV O K m a.root e).2.2.2.cap=m.cap:=by
 have hE:(uj O e a.items).map av=jI O e a.elems:=Nx e a.items;have AP:(lo O e a.items).map av=oZ O e a.elems:=LJ e a.items;have Gr:(hi O e a.items).tail.map av=(sm O e a.elems).tail:=UL e a.items;have SX:=Vu (e:=e) (xP.2 h.sa:uZ O a.elems);obtain⟨R1,R⟩:=LK Z (K:=K) (e:=e) a (k:=K) h.ok h.ra h.ba h.sa h.N9 (by rw[gd,dM,AP,Gr];exact hg) (by omega) hk
 refine⟨R1,?_⟩;unfold jV;cases hh:uj O e a.items with
 |none =>
  rw[hh] at R hE;obtain⟨r1,r2,r3⟩:=R;have hE:jI O e a.elems=aj:=hE.symm;have h2:=h.look r3;have hz:=h2.ok.z0;have h0:lk O (pick O K K m a.root e).2.2 r0=zn O:=by unfold lk look;rw[if_neg (by rw[hz];decide)]
  rw[r1,r2,h0,hz,acO hz,hE];refine⟨rfl,rfl,a,rfl,h2.mono (by omega),?_,r3.v.mono (by omega),r3.cap⟩
  unfold nz;rw[hE]
 |some x =>
  rw[hh] at R hE;obtain⟨r1,t,r2,r3,r4,r5⟩:=R;have hE:jI O e a.elems=aa x.2:=hE.symm;have hp:=agR hh;have U5:x.1∉rf (lo O e a.items++(hi O e a.items).tail)/\(rf (lo O e a.items++(hi O e a.items).tail)).Nodup:=fP.1 ((hp.nodup_iff).2 h.N9);have UI:∀ s,s∈a.refs↔s=x.1∨s∈rf (lo O e a.items++(hi O e a.items).tail):=fun s=>by
   rw[Tr.refs,← hp.mem_iff,bN]
  have hxm:=(ua hh).2.2;have Bt:has m x.1=ao:=h.ra.has _ (List.mem_map_of_mem hxm);have aiP:has (pick O K K m a.root e).2.2 x.1=ao:=by rw[r5.has];exact Bt
  have ho:=r5.ok h.ok;obtain⟨d1,d2,d3,d4,d5,d6⟩:=tK (zn O) ho aiP;have hf:∀ u:Tr E,x.1∉u.refs->Rp O S (pick O K K m a.root e).2.2 u->Rp O S (drop (zn O) (pick O K K m a.root e).2.2 x.1) u:=by
   intro u
   induction u with
   |nil=>exact fun _ _=>trivial
   |node r l y q ihl ihq =>
    intro hx ⟨q1,q2,q3,q4⟩;rw[Tr.jW] at hx;simp only[bY,bN,not_or] at hx;have:=d2 r (fun e=>hx.2.1 e.symm)
    exact⟨by rw[this.1];exact q1,by rw[lk,this.2];exact q2,ihl hx.1 q3,ihq hx.2.2 q4⟩
  have et:t.refs=rf (lo O e a.items++(hi O e a.items).tail):=by rw[Tr.refs,r2.iW]
  have ee:t.elems=nz O e a.elems:=by
   rw[Tr.elems,r2.iW,dM,AP,Gr];unfold nz;rw[hE]
  rw[r1];have hel:(lk O (pick O K K m a.root e).2.2 x.1).e=x.2:=by
   have:lk O (pick O K K m a.root e).2.2 x.1=lk O m x.1:=r5.look _ U5.1;rw[this];exact h.ra.elem x hxm
  refine⟨by rw[hel,hE];rfl,by rw[aiP,hE];rfl,t,r2.root,?_,ee,?_,by rw[d5];exact r5.cap⟩
  ·refine⟨d1,hf t (by rw[et];exact U5.1) r2.rp,hf b (fun hb=>h.off _ hb ((UI _).2 (.inl rfl))) (Rp.frame r5 (fun s hs hr=>h.off s hs ((UI s).2 (.inr hr))) h.rb),r2.mL,h.bb,
    xP.1 (by rw[show t.items.map av=t.elems from rfl,ee];exact SX),h.sb,?_,?_,?_,h.gb⟩
   ·exact ch.2 ⟨by rw[et];exact U5.2,(ch.1 h.l_).2.1,fun y hy z hz e=>by subst e;exact h.off y hz ((UI y).2 (.inr (by rw[← et];exact hy)))⟩
   ·have hl:=UP (O:=O) (e:=e) (l:=a.elems);rw[hE,← ee,Tr.fe,Tr.fe] at hl;rw[d4,r5.held,h.held];simp only[Dy,if_true] at hl;omega
   ·rw[Tr.elems,r2.iW,dM,AP,Gr];exact hg
  ·have:ns 1 (pick O K K m a.root e).2.2 (drop (zn O) (pick O K K m a.root e).2.2 x.1):=⟨1,a_ _,.inr d6⟩;exact(r5.v.trans this).mono (by omega)
theorem aeD {n K:Nat} {e:E} {m:Po E A} {a:Tr E} (h:St O S dm n m a .nil) (hk:2*a.items.length<K) :
  J8 O K K m a.root e/\∃ x y,(mi O K K m a.root e).1=x.root/\(mi O K K m a.root e).2.1=y.root/\St O S dm n (mi O K K m a.root e).2.2 x y/\x.elems=oZ O e a.elems/\y.elems=sm O e a.elems/\(mi O K K m a.root e).2.2.cap=m.cap:=by
 have hh:=a.A_;obtain⟨r1,x,y,r2,r3,kk,r4⟩:=UW Z (K:=K) (e:=e) a (k:=K) h.ok h.ra h.ba h.sa h.N9 h.ga (by omega) hk
 have ex:x.elems=oZ O e a.elems:=by rw[Tr.elems,r2.iW];exact LJ e a.items
 have ey:y.elems=sm O e a.elems:=by rw[Tr.elems,r3.iW];exact L5 e a.items
 have SX:uZ O a.elems:=xP.2 h.sa;have hle:=Ho (O:=O) e a.elems;rw[← hle] at SX;have hg:=h.ga;rw[← hle] at hg;have hrf:=vK (O:=O) e a.items;refine⟨r1,x,y,r2.root,r3.root,⟨r4.ok h.ok,r2.rp,r3.rp,r2.mL,r3.mL,xP.1 ?_,xP.1 ?_,?_,?_,?_,?_⟩,ex,ey,r4.cap⟩
 ·rw[show x.items.map av=x.elems from rfl,ex];exact(nX.1 SX).1
 ·rw[show y.items.map av=y.elems from rfl,ey];exact(nX.1 SX).2.1
 ·rw[Tr.refs,Tr.refs,r2.iW,r3.iW,hrf];exact h.N9
 ·rw[r4.held,h.held,r2.iW,r3.iW];have:=congrArg ae (AL O e a.items);rw[bE] at this;simp only[Tr.items,jX];omega
 ·rw[ex];exact Z.left _ _ hg
 ·rw[ey];exact Z.right _ _ hg
end
end Gv
namespace Gv
open Rx
set_option linter.unusedSectionVars false
theorem Tr.NV {E:Type}:∀ t:Tr E,t.mL->2 ^ (t.h / 2)≤t.items.length+1
 |.nil,_=>by simp[Tr.h,Tr.items]
 |.node r l e q,⟨h1,h2,h3,h4⟩=>by
  have i1:=NV l h1;have i2:=NV q h2;simp only[Tr.h,Tr.items,bE,cy]
  by_cases c:max l.h q.h=0
  ·rw[c];simp
  ·have k1:(1+max l.h q.h) / 2=(max l.h q.h-1) / 2+1:=by omega
   rw[k1,Nat.pow_succ];have k2:(max l.h q.h-1) / 2≤l.h / 2:=by omega
   have k3:(max l.h q.h-1) / 2≤q.h / 2:=by omega
   have j1:2 ^ ((max l.h q.h-1) / 2)≤2 ^ (l.h / 2):=Jn (by omega) k2
   have j2:2 ^ ((max l.h q.h-1) / 2)≤2 ^ (q.h / 2):=Jn (by omega) k3
   omega
def nF (n:Nat):Nat:=2+3*OG (n+1)
theorem Tr.D4 {E:Type} (t:Tr E) (h:t.mL):t.h≤nF t.items.length:=by
 have h1:=t.NV h;have h2:t.h / 2≤OG (t.items.length+1):=(XJ (by omega)).2 h1
 unfold nF;omega
theorem aeH {a b:Nat} (h:a≤b):nF a≤nF b:=by
 unfold nF;have:OG (a+1)≤OG (b+1):=(XJ (by omega)).2 (jz (Nat.log2_self_le (by omega)) (by omega))
 omega
section
variable {E A:Type} {O:iX E A} {S:List E->A} {dm:List E->Prop}
def iG (O:iX E A) (e:E) (l:List E):E×Bool:=((jI O e l).getD O.e0,(jI O e l).isSome)
def qj (O:iX E A) (i:Int) (l:List E):E×Bool:=if 0≤i/\i<l.length then(l.getD i.toNat O.e0,ao) else(O.e0,an)
structure Same (O:iX E A) (S:List E->A) (dm:List E->Prop) (n k:Nat) (m m':Po E A) (a b:Tr E):Prop where
 st:St O S dm n m' a b
 qZ:ns k m m'
 cap:m'.cap=m.cap
theorem St.up {n k:Nat} {m m':Po E A} {a b:Tr E} {r:Ref} (h:St O S dm n m a b) (hu:iV [] k (zn O) (aL m r) m'):Same O S dm n (k+1) m m' a b:=by
 have:=(gK (zn O) m r).to hu (S:=[]) (fun s hs=>by simp at hs) (Nat.le_of_eq (Nat.add_comm 1 k))
 exact⟨h.look this,this.v,this.cap⟩
theorem St.seen {n:Nat} {m:Po E A} {a b:Tr E} (h:St O S dm n m a b) (r:Ref):Same O S dm n 1 m (aL m r) a b:=h.up (iV.refl _ _ _ _)
theorem Same.mono {n k k':Nat} {m m':Po E A} {a b:Tr E} (h:Same O S dm n k m m' a b) (hk:k≤k'):Same O S dm n k' m m' a b:=⟨h.st,h.qZ.mono hk,h.cap⟩
theorem St.lk {n:Nat} {m:Po E A} {a b:Tr E} (h:St O S dm n m a b):bu O m a.root=nd O S a:=h.ra.root h.ok
theorem St.hh {n:Nat} {m:Po E A} {a b:Tr E} (h:St O S dm n m a b):(bu O m a.root).h=(a.h:Int):=by rw[h.lk,rJ]
variable (Z:zE O S dm)
include Z
theorem St.nn {n:Nat} {m:Po E A} {a b:Tr E} (h:St O S dm n m a b):(bu O m a.root).all.n=(a.elems.length:Int):=by rw[h.lk,rT Z.nil,Tr.fe]
theorem ahD {n K:Nat} {e:E} {m:Po E A} {a b:Tr E} (h:St O S dm n m a b) (hk:a.h<K) :
  uv O K (aL m a.root) (bu O m a.root) e/\∃ m',find O K (aL m a.root) (bu O m a.root) e=(iG O e a.elems,m')/\Same O S dm n (a.h+1) m m' a b:=by
 have h2:=h.aG a.root;obtain⟨r1,r2,r3⟩:=Rv Z (e:=e) a (k:=K) h2.ok h2.ra h.sa hk;rw[h.lk];refine⟨r1,_,ks ?_ rfl,h.up r3⟩;rw[r2];have hE:=Nx (O:=O) e a.items;unfold iG;rw[show a.elems=a.items.map av from rfl,← hE]
 cases uj O e a.items<;>rfl
theorem ahc {n K:Nat} {e:E} {m:Po E A} {a b:Tr E} (h:St O S dm n m a b) (hk:a.h<K) :
  tR O K (aL m a.root) (bu O m a.root) e 0/\∃ m',kI O K (aL m a.root) (bu O m a.root) e 0=(((oZ O e a.elems).length:Int),m')/\Same O S dm n (2*a.h+1) m m' a b:=by
 have h2:=h.aG a.root;have hl:=Z.len _ h.ga;rw[Tr.fe] at hl;obtain⟨r1,r2,r3⟩:=QU Z (e:=e) a (k:=K) (c:=0) h2.ok h2.ra h.sa hk (Int.le_refl _) (by omega)
 rw[h.lk];refine⟨r1,_,ks ?_ rfl,h.up r3⟩;rw[r2,show a.elems=a.items.map av from rfl,← LJ,fZ]
 omega
theorem alY {n K:Nat} {i:Int} {m:Po E A} {a b:Tr E} (h:St O S dm n m a b) (hk:a.h<K) :
  AtD O K m a.root i/\∃ m',qX O K m a.root i=(qj O i a.elems,m')/\Same O S dm n (2*a.h+1) m m' a b:=by
 have h2:=h.aG a.root;have hl:=Z.len _ h.ga;have hn:=h.nn Z;unfold AtD qX qj;rw[hn]
 by_cases c:i<0∨i≥(a.elems.length:Int)
 ·rw[if_pos c,if_neg (by omega)]
  exact⟨fun h3 h4=>by omega,_,rfl,(h.seen _).mono (by omega)⟩
 ·rw[if_neg c,if_pos (by omega)]
  rw[Tr.fe] at hl c;obtain⟨r1,r2,r3⟩:=VU Z a (k:=K) (i:=i.toNat) h2.ok h2.ra hl hk (by omega)
  have e:((i.toNat:Nat):Int)=i:=by omega
  rw[e] at r1 r2 r3;rw[h.lk];exact⟨fun _ _=>r1,_,ks (by rw[r2]) rfl,h.up r3⟩
theorem aiG {n K:Nat} {f u:Int} {m:Po E A} {a b:Tr E} (h:St O S dm n m a b) (hk:a.h<K) :
  vD O K (aL m a.root) (bu O m a.root) f u/\∃ m',gj O K (aL m a.root) (bu O m a.root) f u=(⟨(sub a.elems f.toNat u.toNat).length,S (sub a.elems f.toNat u.toNat)⟩,m')/\Same O S dm n (4*a.h+1) m m' a b:=by
 have h2:=h.aG a.root;obtain⟨r1,r2,r3⟩:=II Z (f:=f) (u:=u) a (k:=K) h2.ok h2.ra h.ga hk;rw[h.lk];exact⟨r1,_,ks r2 rfl,(h.up r3).mono (by have:=(Q5 a.h a.elems.length f u).1;omega)⟩
theorem aix {n K:Nat} {m:Po E A} {a b:Tr E} (h:St O S dm n m a b) (hk:a.h<K) :
  Deep O K m a.root/\(bu O m a.root).all.n=(a.elems.length:Int)/\∃ m' kk,cx O K (aL m a.root) a.root=(a.elems,m')/\Same O S dm n kk m m' a b:=by
 have h2:=h.aG a.root;obtain⟨r1,kk,r2⟩:=Lf a (k:=K) h2.ok h2.ra hk;exact⟨Cs a h.ok h.ra hk,h.nn Z,_,_,ks r1 rfl,h.up r2⟩
theorem N8 {n K:Nat} {m:Po E A} {a b:Tr E} (h:St O S dm n m a b) (hk:a.h<K):jt O K (aL m a.root) (bu O m a.root) :=
 qo (Cs a h.ok h.ra hk) (fun s=>iE ..)
theorem ad' {n K:Nat} {f:Int} {may:A->A->Bool} {P:Nat->Bool} {m:Po E A} {a b:Tr E} (h:St O S dm n m a b) (hA:Asks O S may P a.elems) (hk:a.h<K) :
  jt O K (aL m a.root) (bu O m a.root)/\∃ r m' kk,first O may K (aL m a.root) (bu O m a.root) ⟨0,O.a0⟩ f=(r,m')/\B5 P 0 a.elems.length f r/\Same O S dm n kk m m' a b:=by
 have h2:=h.aG a.root;obtain⟨r1,kk,r2⟩:=IV Z (f:=f) hA h.ga a (k:=K) (p:=[]) (s:=[]) h2.ok h2.ra (by simp) hk
 have e0:(([]:List E).length:Int)=0:=rfl;rw[e0,Z.nil,jX,bW] at r1;rw[e0,Z.nil] at r2;refine⟨N8 Z h hk,_,_,_,rfl,?_,h.up (r:=a.root) (k:=kk) ?_⟩
 ·rw[h.lk];exact r1
 ·rw[h.lk];exact r2
theorem ahi {n K:Nat} {f:Int} {may:A->A->Bool} {P:Nat->Bool} {m:Po E A} {a b:Tr E} (h:St O S dm n m a b) (hA:Asks O S may P a.elems) (hk:a.h<K) :
  jt O K (aL m a.root) (bu O m a.root)/\∃ r m' kk,last O may K (aL m a.root) (bu O m a.root) ⟨0,O.a0⟩ f=(r,m')/\EZ P 0 a.elems.length f r/\Same O S dm n kk m m' a b:=by
 have h2:=h.aG a.root;obtain⟨r1,kk,r2⟩:=LN Z (u:=f) hA h.ga a (k:=K) (p:=[]) (s:=[]) h2.ok h2.ra (by simp) hk
 have e0:(([]:List E).length:Int)=0:=rfl;rw[e0,Z.nil,jX,bW] at r1;rw[e0,Z.nil] at r2;refine⟨N8 Z h hk,_,_,_,rfl,?_,h.up (r:=a.root) (k:=kk) ?_⟩
 ·rw[h.lk];exact r1
 ·rw[h.lk];exact r2
theorem ahP {n K:Nat} {e:E} {m:Po E A} {a b:Tr E} (h:St O S dm n m a b) (hn:n+1≤100000) (hg:dm (lF O e a.elems)) (hk:a.h<K) :
  QZ O K m a.root e/\∃ a' m',oa O K m a.root e=(((jI O e a.elems).isSome||decide (m.held≠m.cap)),a'.root,m')/\St O S dm (n+1) m' a' b /\
   a'.elems=(if((jI O e a.elems).isSome||decide (m.held≠m.cap))=ao then lF O e a.elems else a.elems)/\ns (32*a.h+4) m m'/\m'.cap=m.cap:=by
 obtain⟨r1,r2,a',r3,r4,r5,r6,r7⟩:=alb Z h hn hg hk;exact⟨r1,a',_,ks r2 (ks r3 rfl),r4,r5,r6,r7⟩
theorem aeZ {n K:Nat} {e:E} {m:Po E A} {a b:Tr E} (h:St O S dm n m a b) (hg:dm (oZ O e a.elems++(sm O e a.elems).tail)) (hk:2*a.h<K) :
  qG O K K m a.root e/\∃ a' m',jV O K m a.root e=((iG O e a.elems).1,(iG O e a.elems).2,a'.root,m')/\St O S dm (n+1) m' a' b/\a'.elems=nz O e a.elems/\ns (120*a.h+5) m m'/\m'.cap=m.cap:=by
 obtain⟨r1,r2,r3,a',r4,r5,r6,r7,r8⟩:=agN Z h hg hk;exact⟨r1,a',_,ks r2 (ks r3 (ks r4 rfl)),r5,r6,r7,r8⟩
theorem aci {n K:Nat} {e:E} {m:Po E A} {a:Tr E} (h:St O S dm n m a .nil) (hk:2*a.items.length<K) :
  J8 O K K m a.root e/\∃ x y m',mi O K K m a.root e=(x.root,y.root,m')/\St O S dm n m' x y/\x.elems=oZ O e a.elems/\y.elems=sm O e a.elems/\m'.cap=m.cap:=by
 obtain⟨r1,x,y,r2,r3,r4,r5,r6,r7⟩:=aeD Z (e:=e) h hk;exact⟨r1,x,y,_,ks r2 (ks r3 rfl),r4,r5,r6,r7⟩
end
end Gv
namespace Gv
open Rx
set_option linter.unusedSectionVars false
structure Kd (E A:Type) where
 O:iX E A
 S:List E->A
 dm:List E->Prop
 dec:∀ l,Decidable (dm l)
 Z:zE O S dm
 short:∀ x,dm x->x.length≤1000
 anx:dm []
 anq:∀ x y,dm (x++y)->dm (x++y.tail)
instance {E A:Type} (k:Kd E A) (l:List E):Decidable (k.dm l):=k.dec l
theorem sC {E:Type} (a:Tr E):a.h≤a.elems.length:=by rw[Tr.fe];exact a.A_
theorem ab' {E:Type} {t:Tr E} (h:t.elems=[]):t=.nil:=by
 cases t with
 |nil=>rfl
 |node r l e q=>rw[Tr.gL] at h;simp at h
section
variable {E A:Type}
def P2 (k:Kd E A) (n:Nat) (m:Po E A) (ra rb:Ref) (la lb:List E) (c:Int):Prop:=∃ a b:Tr E,a.root=ra/\b.root=rb/\St k.O k.S k.dm n m a b/\a.elems=la/\b.elems=lb/\m.cap=c
abbrev P1 (k:Kd E A) (n:Nat) (m:Po E A) (r:Ref) (l:List E) (c:Int):Prop:=P2 k n m r r0 l [] c
structure Sm (k:Kd E A) (n v:Nat) (m m':Po E A) (ra rb:Ref) (la lb:List E) (c:Int):Prop where
 p:P2 k n m' ra rb la lb c
 qZ:ns v m m'
variable {k:Kd E A} {n:Nat} {m:Po E A} {ra rb:Ref} {la lb:List E} {c:Int}
theorem GG {v:Nat} {a b:Tr E} {m':Po E A} (h:Same k.O k.S k.dm n v m m' a b) (h6:m.cap=c):Sm k n v m m' a.root b.root a.elems b.elems c :=
 ⟨⟨a,b,rfl,rfl,h.st,rfl,rfl,h.cap.trans h6⟩,h.qZ⟩
namespace P2
theorem swap (h:P2 k n m ra rb la lb c):P2 k n m rb ra lb la c:=by
 obtain⟨a,b,h1,h2,h3,h4,h5,h6⟩:=h;exact⟨b,a,h2,h1,h3.swap,h5,h4,h6⟩
theorem mono {q:Nat} (h:P2 k n m ra rb la lb c) (hk:n≤q):P2 k q m ra rb la lb c:=by
 obtain⟨a,b,h1,h2,h3,h4,h5,h6⟩:=h;exact⟨a,b,h1,h2,h3.mono hk,h4,h5,h6⟩
theorem empty (k:Kd E A) (c:Int):P1 k 0 ⟨[],[],[],[],0,c,0⟩ r0 [] c :=
 ⟨.nil,.nil,rfl,rfl,St.empty k.anx c 0,rfl,rfl,rfl⟩
theorem qA {m':Po E A} (h:P2 k n m ra rb la lb c) (hu:∃ v,iV [] v (zn k.O) m m'):P2 k n m' ra rb la lb c:=by
 obtain⟨a,b,h1,h2,h3,h4,h5,h6⟩:=h;obtain⟨v,hu⟩:=hu;exact⟨a,b,h1,h2,h3.look hu,h4,h5,hu.cap.trans h6⟩
theorem ok (h:P2 k n m ra rb la lb c) (hn:n≤100000):gp 100000 m:=by
 obtain⟨a,b,h1,h2,h3,h4,h5,h6⟩:=h;exact h3.ok.mono hn
theorem dm (h:P2 k n m ra rb la lb c):k.dm la:=by
 obtain⟨a,b,h1,h2,h3,h4,h5,h6⟩:=h;rw[← h4];exact h3.ga
theorem mY (h:P2 k n m ra rb la lb c):uZ k.O la:=by
 obtain⟨a,b,h1,h2,h3,h4,h5,h6⟩:=h;rw[← h4];exact xP.2 h3.sa
theorem len (h:P2 k n m ra rb la lb c):la.length≤1000:=k.short _ h.dm
theorem held (h:P2 k n m ra rb la lb c):m.held=la.length+lb.length:=by
 obtain⟨a,b,h1,h2,h3,h4,h5,h6⟩:=h;rw[h3.held,← h4,← h5,Tr.fe,Tr.fe]
theorem cap (h:P2 k n m ra rb la lb c):m.cap=c:=by
 obtain⟨a,b,h1,h2,h3,h4,h5,h6⟩:=h;exact h6
theorem seen (h:P2 k n m ra rb la lb c) (r:Ref):Sm k n 1 m (aG m r) ra rb la lb c:=by
 obtain⟨a,b,rfl,rfl,h3,rfl,rfl,h6⟩:=h;exact GG (h3.seen r) h6
theorem nn (h:P2 k n m ra rb la lb c):(lk k.O m ra).all.n=(la.length:Int):=by
 obtain⟨a,b,rfl,rfl,h3,rfl,rfl,h6⟩:=h;exact h3.nn k.Z
theorem akB (h:P2 k n m ra rb la lb c):∃ H:Nat,(lk k.O m ra).h=(H:Int)/\H≤nF la.length:=by
 obtain⟨a,b,rfl,rfl,h3,rfl,rfl,h6⟩:=h;refine⟨a.h,h3.hh,?_⟩;rw[Tr.fe];exact a.D4 h3.ba
theorem put {K:Nat} {e:E} (h:P2 k n m ra rb la lb c) (hn:n+1≤100000) (hg:k.dm (lF k.O e la)) (hk:la.length<K) :
  QZ k.O K m ra e/\∃ r' m',oa k.O K m ra e=(((jI k.O e la).isSome||decide (((la.length+lb.length:Nat):Int)≠c)),r',m') /\
   P2 k (n+1) m' r' rb (if((jI k.O e la).isSome||decide (((la.length+lb.length:Nat):Int)≠c))=ao then lF k.O e la else la) lb c/\ns (32*nF la.length+4) m m':=by
 have hh:=h.held;obtain⟨a,b,rfl,rfl,h3,rfl,rfl,h6⟩:=h;obtain⟨d,a',m',e1,e2,e3,e4,e5⟩:=ahP k.Z (e:=e) h3 hn hg (jk (sC a) hk);have hb:((jI k.O e a.elems).isSome||decide (m.held≠m.cap))=((jI k.O e a.elems).isSome||decide (((a.elems.length+b.elems.length:Nat):Int)≠c)):=by
  rw[hh,h6];push_cast;rfl
 rw[hb] at e1 e3;exact⟨d,a'.root,m',e1,⟨a',b,rfl,rfl,e2,e3,rfl,e5.trans h6⟩,e4.mono (by have:=a.D4 h3.ba;rw[Tr.fe];omega)⟩
theorem drop {K:Nat} {e:E} (h:P2 k n m ra rb la lb c) (hk:2*la.length<K) :
  qG k.O K K m ra e/\∃ r' m',jV k.O K m ra e=((iG k.O e la).1,(iG k.O e la).2,r',m')/\P2 k (n+1) m' r' rb (nz k.O e la) lb c/\ns (120*nF la.length+5) m m':=by
 obtain⟨a,b,rfl,rfl,h3,rfl,rfl,h6⟩:=h;have hh:=sC a;obtain⟨d,a',m',e1,e2,e3,e4,e5⟩:=aeZ k.Z (K:=K) (e:=e) h3 (k.anq _ _ (by rw[Ho];exact h3.ga)) (by omega)
 exact⟨d,a'.root,m',e1,⟨a',b,rfl,rfl,e2,e3,rfl,e5.trans h6⟩,e4.mono (by have:=a.D4 h3.ba;rw[Tr.fe];omega)⟩
theorem find {K:Nat} {e:E} (h:P2 k n m ra rb la lb c) (hk:la.length<K) :
  uv k.O K (aG m ra) (lk k.O m ra) e/\∃ m',iO k.O K (aG m ra) (lk k.O m ra) e=(iG k.O e la,m')/\Sm k n (nF la.length+1) m m' ra rb la lb c:=by
 obtain⟨a,b,rfl,rfl,h3,rfl,rfl,h6⟩:=h;obtain⟨d,m',e1,e2⟩:=ahD k.Z (K:=K) (e:=e) h3 (jk (sC a) hk);exact⟨d,m',e1,GG (e2.mono (by have:=a.D4 h3.ba;rw[Tr.fe];omega)) h6⟩
theorem kI {K:Nat} {e:E} (h:P2 k n m ra rb la lb c) (hk:la.length<K) :
  tR k.O K (aG m ra) (lk k.O m ra) e 0/\∃ m',lX k.O K (aG m ra) (lk k.O m ra) e 0=(((oZ k.O e la).length:Int),m')/\Sm k n (2*nF la.length+1) m m' ra rb la lb c:=by
 obtain⟨a,b,rfl,rfl,h3,rfl,rfl,h6⟩:=h;obtain⟨d,m',e1,e2⟩:=ahc k.Z (K:=K) (e:=e) h3 (jk (sC a) hk);exact⟨d,m',e1,GG (e2.mono (by have:=a.D4 h3.ba;rw[Tr.fe];omega)) h6⟩
theorem at_ {K:Nat} {i:Int} (h:P2 k n m ra rb la lb c) (hk:la.length<K) :
  AtD k.O K m ra i/\∃ m',qX k.O K m ra i=(qj k.O i la,m')/\Sm k n (2*nF la.length+1) m m' ra rb la lb c:=by
 obtain⟨a,b,rfl,rfl,h3,rfl,rfl,h6⟩:=h;obtain⟨d,m',e1,e2⟩:=alY k.Z (K:=K) (i:=i) h3 (jk (sC a) hk);exact⟨d,m',e1,GG (e2.mono (by have:=a.D4 h3.ba;rw[Tr.fe];omega)) h6⟩
theorem GM {K:Nat} {f u:Int} (h:P2 k n m ra rb la lb c) (hk:la.length<K) :
  vD k.O K (aG m ra) (lk k.O m ra) f u/\∃ m',gj k.O K (aG m ra) (lk k.O m ra) f u=(⟨(sub la f.toNat u.toNat).length,k.S (sub la f.toNat u.toNat)⟩,m')/\Sm k n (4*nF la.length+1) m m' ra rb la lb c:=by
 obtain⟨a,b,rfl,rfl,h3,rfl,rfl,h6⟩:=h;obtain⟨d,m',e1,e2⟩:=aiG k.Z (K:=K) (f:=f) (u:=u) h3 (jk (sC a) hk);exact⟨d,m',e1,GG (e2.mono (by have:=a.D4 h3.ba;rw[Tr.fe];omega)) h6⟩
theorem all {K:Nat} (h:P2 k n m ra rb la lb c) (hk:la.length<K) :
  (Deep k.O K m ra/\(lk k.O m ra).all.n=(cx k.O K (aG m ra) ra).1.length/\(cx k.O K (aG m ra) ra).1.length<900000)/\∃ m',cx k.O K (aG m ra) ra=(la,m')/\P2 k n m' ra rb la lb c:=by
 have hl:=h.len;obtain⟨a,b,rfl,rfl,h3,rfl,rfl,h6⟩:=h;obtain⟨d1,d2,m',kk,e1,e2⟩:=aix k.Z (K:=K) h3 (jk (sC a) hk);refine⟨⟨d1,?_,?_⟩,m',e1,(GG e2 h6).p⟩
 ·rw[e1];exact d2
 ·rw[e1];simp only;omega
theorem first {K:Nat} {f:Int} {may:A->A->Bool} {P:Nat->Bool} (h:P2 k n m ra rb la lb c) (hA:Asks k.O k.S may P la) (hk:la.length<K) :
  jt k.O K (aG m ra) (lk k.O m ra)/\∃ r m',kT k.O may K (aG m ra) (lk k.O m ra) ⟨0,k.O.a0⟩ f=(r,m')/\B5 P 0 la.length f r/\P2 k n m' ra rb la lb c:=by
 obtain⟨a,b,rfl,rfl,h3,rfl,rfl,h6⟩:=h;obtain⟨d,r,m',kk,e1,e2,e3⟩:=ad' k.Z (K:=K) (f:=f) h3 hA (jk (sC a) hk);exact⟨d,r,m',e1,e2,(GG e3 h6).p⟩
theorem last {K:Nat} {f:Int} {may:A->A->Bool} {P:Nat->Bool} (h:P2 k n m ra rb la lb c) (hA:Asks k.O k.S may P la) (hk:la.length<K) :
  jt k.O K (aG m ra) (lk k.O m ra)/\∃ r m',kf k.O may K (aG m ra) (lk k.O m ra) ⟨0,k.O.a0⟩ f=(r,m')/\EZ P 0 la.length f r/\P2 k n m' ra rb la lb c:=by
 obtain⟨a,b,rfl,rfl,h3,rfl,rfl,h6⟩:=h;obtain⟨d,r,m',kk,e1,e2,e3⟩:=ahi k.Z (K:=K) (f:=f) h3 hA (jk (sC a) hk);exact⟨d,r,m',e1,e2,(GG e3 h6).p⟩
theorem LH {K:Nat} (h:P2 k n m ra rb la lb c) (hk:la.length<K):jt k.O K (aG m ra) (lk k.O m ra):=by
 obtain⟨a,b,rfl,rfl,h3,rfl,rfl,h6⟩:=h;exact N8 k.Z h3 (jk (sC a) hk)
theorem split {K:Nat} {e:E} {r:Ref} {l:List E} (h:P1 k n m r l c) (hk:2*l.length<K) :
  J8 k.O K K m r e/\∃ x y m',mi k.O K K m r e=(x,y,m')/\P2 k n m' x y (oZ k.O e l) (sm k.O e l) c:=by
 obtain⟨a,b,rfl,h2,h3,rfl,h5,h6⟩:=h;obtain rfl:=ab' h5;obtain⟨d,x,y,m',e1,e2,e3,e4,e5⟩:=aci k.Z (K:=K) (e:=e) h3 (by rw[← Tr.fe];exact hk)
 exact⟨d,x.root,y.root,m',e1,x,y,rfl,rfl,e2,e3,e4,e5.trans h6⟩
end P2
end
theorem On {E A:Type} (O:iX E A) {k:Nat} {m m':Po E A} {r:Ref} (h:iV [] k (zn O) (aG m r) m'):∃ k,iV [] k (zn O) m m':=⟨_,(gK (zn O) m r).to h (S:=[]) (fun s hs=>by simp at hs) (a_ _)⟩
theorem Oc {E A:Type} (O:iX E A) {a b c:Po E A} (h:∃ k,iV [] k (zn O) a b) (h':∃ k,iV [] k (zn O) b c):∃ k,iV [] k (zn O) a c:=by
 obtain⟨k,h⟩:=h;obtain⟨k',h'⟩:=h';exact⟨_,h.to h' (S:=[]) (fun s hs=>by simp at hs) (a_ _)⟩
theorem IE {E A:Type} (O:iX E A) (may:A->A->Bool):∀ (k:Nat) (m:Po E A) (n:Node E A) (a:Part A) (f:Int),∃ kk,iV [] kk (zn O) m (first O may k m n a f).2
 |0,m,_,_,_=>⟨0,iV.refl _ _ _ _⟩
 |k+1,m,n,a,f=>by
  obtain⟨k1,h1⟩:=IE O may k (aG m n.l) (lk O m n.l) a f;have h1:=On O h1;rw[first]
  split
  ·exact⟨0,iV.refl _ _ _ _⟩
  ·split
   ·exact⟨0,iV.refl _ _ _ _⟩
   ·split
    ·exact h1
    ·split
     ·exact h1
     ·obtain⟨k2,h2⟩:=IE O may k (aG (first O may k (aG m n.l) (lk O m n.l) a f).2 n.r) (lk O (first O may k (aG m n.l) (lk O m n.l) a f).2 n.r) (ef O (ef O a (lk O m n.l).all) (one O n.e)) f
      exact Oc O h1 (On O h2)
theorem J3 {E A:Type} (O:iX E A) (may:A->A->Bool):∀ (k:Nat) (m:Po E A) (n:Node E A) (a:Part A) (f:Int),∃ kk,iV [] kk (zn O) m (last O may k m n a f).2
 |0,m,_,_,_=>⟨0,iV.refl _ _ _ _⟩
 |k+1,m,n,a,f=>by
  obtain⟨k1,h1⟩:=J3 O may k (aG (aG m n.l) n.r) (lk O (aG m n.l) n.r) (ef O (ef O a (lk O m n.l).all) (one O n.e)) f;have h1:=Oc O ⟨_,gK (zn O) m n.l⟩ (On O h1);rw[last];split
  ·exact⟨0,iV.refl _ _ _ _⟩
  ·split
   ·exact⟨0,iV.refl _ _ _ _⟩
   ·simp only;split
    ·exact h1
    ·split
     ·exact h1
     ·exact Oc O h1 (J3 O may k _ _ _ _)
def KK:Nat:=5000
structure TS {E A:Type} (k:Kd E A) where
 n:Nat
 m:Po E A
 r:Ref
 l:List E
 c:Int
 ok:P1 k n m r l c
namespace TS
section
variable {E A:Type} {k:Kd E A}
theorem HR (s:TS k):s.l.length≤1000:=s.ok.len
theorem kk (s:TS k):2*s.l.length<KK:=by have:=s.HR;unfold KK;omega
theorem k1 (s:TS k):s.l.length<KK:=by have:=s.kk;omega
def new (k:Kd E A) (c:Int):TS k:=⟨0,⟨[],[],[],[],0,min (max c 0) 16777216,0⟩,r0,[],min (max c 0) 16777216,P2.empty k _⟩
def gv (s:TS k):Prop:=s.n<100000
instance (s:TS k):Decidable s.gv:=inferInstanceAs (Decidable (_<_))
theorem pp (s:TS k) (h:s.gv):gp 100000 s.m:=s.ok.ok (Nat.le_of_lt h)
def seen (s:TS k):TS k:=⟨s.n,aG s.m s.r,s.r,s.l,s.c,(s.ok.seen s.r).p⟩
def h (s:TS k):Int:=(lk k.O s.m s.r).h
theorem A_ (s:TS k):0≤s.h/\s.h≤nF s.l.length:=by
 obtain⟨H,e,hh⟩:=s.ok.akB;unfold h;rw[e];omega
structure ls (s:TS k) (e:E):Prop where
 mb:s.n<100000
 dm:k.dm (lF k.O e s.l)
def Kw (s:TS k) (e:E):Bool:=(jI k.O e s.l).isSome||decide ((s.l.length:Int)≠s.c)
def Oi (s:TS k) (e:E):List E:=if s.Kw e=ao then lF k.O e s.l else s.l
theorem tU {s:TS k} {e:E} (h:s.ls e):QZ k.O KK s.m s.r e/\(oa k.O KK s.m s.r e).1=s.Kw e /\
  P1 k (s.n+1) (oa k.O KK s.m s.r e).2.2 (oa k.O KK s.m s.r e).2.1 (s.Oi e) s.c/\ns (32*nF s.l.length+4) s.m (oa k.O KK s.m s.r e).2.2:=by
 obtain⟨d,r',m',e1,e2,e3⟩:=s.ok.put (K:=KK) (e:=e) h.mb h.dm s.k1;rw[e1];simp only[jX,Nat.add_zero] at e2 ⊢;exact⟨d,rfl,e2,e3⟩
instance (s:TS k) (e:E):Decidable (s.ls e):=decidable_of_iff (s.n<100000/\k.dm (lF k.O e s.l)) ⟨fun⟨a,b⟩=>⟨a,b⟩,fun⟨a,b⟩=>⟨a,b⟩⟩
def put (s:TS k) (e:E):TS k:=if h:s.ls e then⟨s.n+1,(oa k.O KK s.m s.r e).2.2,(oa k.O KK s.m s.r e).2.1,s.Oi e,s.c,(tU h).2.2.1⟩ else s
theorem put_eq {s:TS k} {e:E} (h:s.ls e):s.put e=⟨s.n+1,(oa k.O KK s.m s.r e).2.2,(oa k.O KK s.m s.r e).2.1,s.Oi e,s.c,(tU h).2.2.1⟩:=by unfold put;rw[dif_pos h]
theorem Zj {s:TS k} {e:E} (h:s.ls e):(s.put e).l=s.Oi e:=by rw[put_eq h]
theorem T_ {s:TS k} {e:E} (h:s.ls e):(s.put e).n=s.n+1:=by rw[put_eq h]
theorem TX {s:TS k} {e:E} (h:s.ls e):(s.put e).c=s.c:=by rw[put_eq h]
theorem Lt {s:TS k} {e:E} (h:s.ls e):ns (32*nF s.l.length+4) s.m (s.put e).m:=by rw[put_eq h];exact(tU h).2.2.2
theorem tK (s:TS k) (e:E):qG k.O KK KK s.m s.r e/\(jV k.O KK s.m s.r e).1=(iG k.O e s.l).1/\(jV k.O KK s.m s.r e).2.1=(iG k.O e s.l).2 /\
  P1 k (s.n+1) (jV k.O KK s.m s.r e).2.2.2 (jV k.O KK s.m s.r e).2.2.1 (nz k.O e s.l) s.c/\ns (120*nF s.l.length+5) s.m (jV k.O KK s.m s.r e).2.2.2:=by
 obtain⟨d,r',m',e1,e2,e3⟩:=s.ok.drop (K:=KK) (e:=e) s.kk;rw[e1];exact⟨d,rfl,rfl,e2,e3⟩
def drop (s:TS k) (e:E):TS k:=⟨s.n+1,(jV k.O KK s.m s.r e).2.2.2,(jV k.O KK s.m s.r e).2.2.1,nz k.O e s.l,s.c,(s.tK e).2.2.2.1⟩
def find (s:TS k) (e:E):TS k:=⟨s.n,(iO k.O KK (aG s.m s.r) (lk k.O s.m s.r) e).2,s.r,s.l,s.c,by obtain⟨d,m',e1,e2⟩:=s.ok.find (K:=KK) (e:=e) s.k1;rw[e1];exact e2.p⟩
def kI (s:TS k) (e:E):TS k:=⟨s.n,(lX k.O KK (aG s.m s.r) (lk k.O s.m s.r) e 0).2,s.r,s.l,s.c,by obtain⟨d,m',e1,e2⟩:=s.ok.kI (K:=KK) (e:=e) s.k1;rw[e1];exact e2.p⟩
def at_ (s:TS k) (i:Int):TS k:=⟨s.n,(qX k.O KK s.m s.r i).2,s.r,s.l,s.c,by obtain⟨d,m',e1,e2⟩:=s.ok.at_ (K:=KK) (i:=i) s.k1;rw[e1];exact e2.p⟩
def GM (s:TS k) (f u:Int):TS k:=⟨s.n,(gj k.O KK (aG s.m s.r) (lk k.O s.m s.r) f u).2,s.r,s.l,s.c,by obtain⟨d,m',e1,e2⟩:=s.ok.GM (K:=KK) (f:=f) (u:=u) s.k1;rw[e1];exact e2.p⟩
def all (s:TS k):TS k:=⟨s.n,(cx k.O KK (aG s.m s.r) s.r).2,s.r,s.l,s.c,by obtain⟨d,m',e1,e2⟩:=s.ok.all (K:=KK) s.k1;rw[e1];exact e2⟩
theorem IL (s:TS k) (e:E):ns (nF s.l.length+1) s.m (s.find e).m:=by
 obtain⟨d,m',e1,e2⟩:=s.ok.find (K:=KK) (e:=e) s.k1;show ns _ s.m (iO k.O KK (aG s.m s.r) (lk k.O s.m s.r) e).2
 rw[e1];exact e2.qZ
theorem ae5 (s:TS k) (e:E):ns (2*nF s.l.length+1) s.m (s.kI e).m:=by
 obtain⟨d,m',e1,e2⟩:=s.ok.kI (K:=KK) (e:=e) s.k1;show ns _ s.m (lX k.O KK (aG s.m s.r) (lk k.O s.m s.r) e 0).2
 rw[e1];exact e2.qZ
theorem Lu (s:TS k) (f u:Int):ns (4*nF s.l.length+1) s.m (s.GM f u).m:=by
 obtain⟨d,m',e1,e2⟩:=s.ok.GM (K:=KK) (f:=f) (u:=u) s.k1;show ns _ s.m (gj k.O KK (aG s.m s.r) (lk k.O s.m s.r) f u).2
 rw[e1];exact e2.qZ
theorem sJ (s:TS k):ns 1 s.m s.seen.m:=(s.ok.seen s.r).qZ
theorem Nk (s:TS k) (e:E):ns (120*nF s.l.length+5) s.m (s.drop e).m:=(s.tK e).2.2.2.2
def uI (may:A->A->Bool) (s:TS k) (f:Int):Int:=(kT k.O may KK (aG s.m s.r) (lk k.O s.m s.r) ⟨0,k.O.a0⟩ f).1
def AJ (may:A->A->Bool) (s:TS k) (f:Int):Int:=(kf k.O may KK (aG s.m s.r) (lk k.O s.m s.r) ⟨0,k.O.a0⟩ f).1
def first (may:A->A->Bool) (s:TS k) (f:Int):TS k:=⟨s.n,(kT k.O may KK (aG s.m s.r) (lk k.O s.m s.r) ⟨0,k.O.a0⟩ f).2,s.r,s.l,s.c,P2.qA (s.ok.seen s.r).p (IE k.O may KK _ _ _ _)⟩
def last (may:A->A->Bool) (s:TS k) (f:Int):TS k:=⟨s.n,(kf k.O may KK (aG s.m s.r) (lk k.O s.m s.r) ⟨0,k.O.a0⟩ f).2,s.r,s.l,s.c,P2.qA (s.ok.seen s.r).p (J3 k.O may KK _ _ _ _)⟩
theorem Wt {may:A->A->Bool} {P:Nat->Bool} {s:TS k} {f:Int} (h:Asks k.O k.S may P s.l):B5 P 0 s.l.length f (s.uI may f):=by
 obtain⟨d,r,m',e1,e2,e3⟩:=s.ok.first (K:=KK) (f:=f) h s.k1
 unfold uI;rw[e1];exact e2
theorem XV {may:A->A->Bool} {P:Nat->Bool} {s:TS k} {f:Int} (h:Asks k.O k.S may P s.l):EZ P 0 s.l.length f (s.AJ may f):=by
 obtain⟨d,r,m',e1,e2,e3⟩:=s.ok.last (K:=KK) (f:=f) h s.k1;unfold AJ;rw[e1];exact e2
theorem LH (s:TS k):jt k.O KK (aG s.m s.r) (lk k.O s.m s.r):=s.ok.LH s.k1
end
end TS
end Gv
namespace G8
open Rx
set_option maxRecDepth 100000
def k8:Gv.Kd Wv.Mk Wv.Sw:=⟨Wv.O8,Wv.S8,Wv.GD,(fun l=>inferInstanceAs (Decidable (l.length≤60))),Wv.T5,(fun x h=>jz h (by decide)),dv _,(fun x y h=>by
 unfold Wv.GD at *
 rw[bE] at *
 rw[List.length_tail];omega)⟩
abbrev Ts:=Gv.TS k8
inductive Rt
 |tree (s:Ts)
def IQ:Rt->Hp Rs
 |.tree s=>[aa (.inl (110,[.pointer (aa ⟨1,0,aj⟩),.int .i64 s.r.i,.int .i64 s.r.g])),aa (.inr (.inr (.inr (.db s.m))))]
def L2:EE Rt Rs where
 lay:=IQ
 ne x:=by cases x<;>exact sZ _
 own x b X h:=by
  cases x with
  |tree s =>
   match b,h with
   |0,h=>simp only[IQ,cf,cv] at h;subst h;rfl
   |1,h=>simp only[IQ,List.getElem?_cons_succ,cf,cv] at h;subst h;rfl
   |b+2,h=>simp[IQ] at h
 ins x:=by cases x<;>rfl
def D2:fR Rt:=GK D L2
abbrev oT (s:Ts):Option (SB Rt):=aa (.inr (.inr (.inr (.tree s))))
def pO (n:Nat) (c:aW):Prop:=∃ l:List Int,c=⟨l,[],[]⟩/\l.length=n
def PA (n:Nat) (c:aW):Prop:=∃ l:List Bool,c=⟨[],l,[]⟩/\l.length=n
def rF (n:Nat) (gs:List Int) (lv:List Bool) (i g:Int):Bool:=decide (0≤i)&&decide (i<n)&&lv.getD i.toNat an&&decide (gs.getD i.toNat 0=g)
structure ad9 (n:Nat) (c0 c1 c2 c3 c4 c5 c6 c7 c8 c9 oW oH oF z_ zK zI zT z6 Aa Aq Ai zY z7 zZ Ao Ah Ak Al Ag zH yE yT:aW):Prop where
 DO:pO n c0
 Pb:PA n c1
 p_:pO n c2
 Sx:pO n c3
 hc4:PA n c4
 hc5:PA n c5
 hc6:pO n c6
 hc7:pO n c7
 hc8:pO n c8
 hc9:pO n c9
 anI:pO n oW
 an3:pO n oH
 an6:pO n oF
 aqy:pO n z_
 ap4:pO n zK
 ap_:pO n zI
 aqn:pO n zT
 ap3:pO n z6
 ap9:pO n Aa
 apW:pO n Aq
 ap1:pO n Ai
 aqE:pO n zY
 aqa:pO n z7
 aqj:PA n zZ
 aqe:pO n Ao
 apR:pO n Ah
 apL:PA n Ak
 apS:pO n Al
 aqi:pO n Ag
 apM:pO n zH
 apT:pO n yE
 aqm:PA n yT
def m_ (n:Nat):List aW->Prop
 |[c0,c1,c2,c3,c4,c5,c6,c7,c8,c9,oW,oH,oF,z_,zK,zI,zT,z6,Aa,Aq,Ai,zY,z7,zZ,Ao,Ah,Ak,Al,Ag,zH,yE,yT]=>ad9 n c0 c1 c2 c3 c4 c5 c6 c7 c8 c9 oW oH oF z_ zK zI zT z6 Aa Aq Ai zY z7 zZ Ao Ah Ak Al Ag zH yE yT
 |_=>False
def Vm:List Value->Hp Empty->Option Bool:=fun args hh=>match args,hh with
 |[.pointer (aa ⟨0,0,aj⟩),.agg ⟨[.int .i64 i,.int .i64 g]⟩],[aa (.inl (186,[.slice (aa ⟨1,0,aa 32000⟩) n cp,.slice (aa ⟨2,0,aa 1000⟩) fn fc,.int .i64 hd,.int .i64 ca,.int .i64 vi])),aa (.inr (.inl (189,⟨tm,n2,[c0,c1,c2,c3,c4,c5,c6,c7,c8,c9,oW,oH,oF,z_,zK,zI,zT,z6,Aa,Aq,Ai,zY,z7,zZ,Ao,Ah,Ak,Al,Ag,zH,yE,yT]⟩))),aa (.inr (.inl (3,⟨[.int .i64 0],f2,[⟨fr,[],[]⟩]⟩)))]=>aa (rF n yE.i yT.b i g)
 |_,_=>aj
def K5:Prim Empty:=fun args hh=>match args,hh with
 |[.pointer (aa ⟨0,0,aj⟩),.agg ⟨[.int .i64 i,.int .i64 g]⟩],[aa (.inl (186,[.slice (aa ⟨1,0,aa 32000⟩) n cp,.slice (aa ⟨2,0,aa 1000⟩) fn fc,.int .i64 hd,.int .i64 ca,.int .i64 vi])),aa (.inr (.inl (189,⟨tm,n2,[c0,c1,c2,c3,c4,c5,c6,c7,c8,c9,oW,oH,oF,z_,zK,zI,zT,z6,Aa,Aq,Ai,zY,z7,zZ,Ao,Ah,Ak,Al,Ag,zH,yE,yT]⟩))),aa (.inr (.inl (3,⟨[.int .i64 0],f2,[⟨fr,[],[]⟩]⟩)))]=>aa ⟨tm=dj/\n2=n/\n<1000000/\m_ n [c0,c1,c2,c3,c4,c5,c6,c7,c8,c9,oW,oH,oF,z_,zK,zI,zT,z6,Aa,Aq,Ai,zY,z7,zZ,Ao,Ah,Ak,Al,Ag,zH,yE,yT],.pointer (aa ⟨1,i.toNat,aa 32000⟩),aj,[aa (.inl (186,[.slice (aa ⟨1,0,aa 32000⟩) n cp,.slice (aa ⟨2,0,aa 1000⟩) fn fc,.int .i64 hd,.int .i64 ca,.int .i64 (ar.wrap (vi+1))])),aa (.inr (.inl (189,⟨tm,n2,[c0,c1,c2,c3,c4,c5,c6,c7,c8,c9,oW,oH,oF,z_,zK,zI,zT,z6,Aa,Aq,Ai,zY,z7,zZ,Ao,Ah,Ak,Al,Ag,zH,yE,yT]⟩))),aa (.inr (.inl (3,⟨[.int .i64 0],f2,[⟨fr,[],[]⟩]⟩)))],[],[(0,0)]⟩
 |_,_=>aj
def Le:Prim Empty:=fun args hh=>match args,hh with
 |[.pointer (aa ⟨0,0,aj⟩),.agg ⟨[.int .i64 i,.int .i64 g]⟩],[aa (.inl (186,[.slice (aa ⟨1,0,aa 32000⟩) n cp,.slice (aa ⟨2,0,aa 1000⟩) fn fc,.int .i64 hd,.int .i64 ca,.int .i64 vi])),aa (.inr (.inl (189,⟨tm,n2,[c0,c1,c2,c3,c4,c5,c6,c7,c8,c9,oW,oH,oF,z_,zK,zI,zT,z6,Aa,Aq,Ai,zY,z7,zZ,Ao,Ah,Ak,Al,Ag,zH,yE,yT]⟩))),aa (.inr (.inl (3,⟨[.int .i64 0],f2,[⟨fr,[],[]⟩]⟩)))]=>aa ⟨tm=dj/\n2=n/\n<1000000/\m_ n [c0,c1,c2,c3,c4,c5,c6,c7,c8,c9,oW,oH,oF,z_,zK,zI,zT,z6,Aa,Aq,Ai,zY,z7,zZ,Ao,Ah,Ak,Al,Ag,zH,yE,yT],.pointer aj,aj,hh,[],[]⟩
 |_,_=>aj
def q7:jo Empty:=⟨Vm,K5,Le⟩
def VF:eM Empty:=[(1000000000,lW)]
theorem Kn:cN tw Tryz.prog VF:=⟨iF,trivial⟩
theorem Lb:rR tw Tryz.prog 145 (su q7 ao) (q7.go ao):=by
 refine wG (fn:=Tryz.f145) (root:=dI Tryz.f145) (by kernel_rfl) (by kernel_rfl) (by kernel_rfl) fun args hh x hx=>?_
 unfold q7 jo.go K5 at hx;simp only at hx;split at hx
 ·rename_i i g n cp fn fc hd ca vi tm n2 c0 c1 c2 c3 c4 c5 c6 c7 c8 c9 oW oH oF z_ zK zI zT z6 Aa Aq Ai zY z7 zZ Ao Ah Ak Al Ag zH yE yT f2 fr;cases hx;refine⟨a_ _,(fun b hb=>by cases hb),(fun hw=>by first|rfl|cases hw),fun m7 hv=>?_⟩
  obtain⟨rfl,rfl,ui,⟨⟨l0,rfl,ou⟩,⟨l1,rfl,zQ⟩,⟨l2,rfl,BK⟩,⟨l3,rfl,yQ⟩,⟨l4,rfl,yY⟩,⟨l5,rfl,Fo⟩,⟨l6,rfl,EY⟩,⟨l7,rfl,Ey⟩,⟨l8,rfl,ES⟩,⟨l9,rfl,EO⟩,⟨q9,rfl,zx⟩,⟨n5,rfl,zC⟩,⟨nh,rfl,zk⟩,⟨Dx,rfl,Nt⟩,⟨CW,rfl,Nh⟩,⟨CQ,rfl,Om⟩,⟨Dp,rfl,N5⟩,⟨Dl,rfl,NL⟩,⟨Dm,rfl,ND⟩,⟨CO,rfl,Ns⟩,⟨Di,rfl,N_⟩,⟨CZ,rfl,OA⟩,⟨C2,rfl,N7⟩,⟨Dg,rfl,NR⟩,⟨Dj,rfl,Oh⟩,⟨Dv,rfl,N4⟩,⟨Da,rfl,Od⟩,⟨C1,rfl,Na⟩,⟨Dt,rfl,M6⟩,⟨Db,rfl,M9⟩,⟨uC,rfl,Nl⟩,⟨sW,rfl,NY⟩⟩⟩:=hv;have hw:rF n2 uC sW i g=ao:=by
   rcases m7 with⟨h,_⟩|h
   ·exact(wP _ h).elim
   ·exact pw h
  clear m7;generalize hG:cj (R:=Empty) _ _=G;refine cK (T:=VF) Kn mixed 200 ?_;refine bM (q:=let Z1:=bk ar;(decide (i<(0:Int))=ao->Vc (aE (decide (i<(0:Int)))=aE ao)/\aY (G (aC aj) [aa (.inl (186,[.slice (aa ⟨1,0,aa 32000⟩) n2 cp,.slice (aa ⟨2,0,aa 1000⟩) fn fc,Z1 hd,Z1 ca,Z1 vi])),aa (.inr (.inl (189,Row.mk dj n2 (cV l0 l1 l2 l3 l4 l5 l6 l7 l8 l9 q9 n5 nh Dx CW CQ Dp Dl Dm CO Di CZ C2 Dg Dj Dv Da C1 Dt Db uC sW)))),aa (.inr (.inl (3,Row.mk [Z1 0] f2 [aW.mk fr [] []]))),aa (.inl (108,[Z1 i,Z1 g]))]))/\(decide (i<(0:Int))=an->Vc (aE (decide (i<(0:Int)))=aE an)/\(decide (i≥(↑n2:Int))=ao->aY (G (aC aj) [aa (.inl (186,[.slice (aa ⟨1,0,aa 32000⟩) n2 cp,.slice (aa ⟨2,0,aa 1000⟩) fn fc,Z1 hd,Z1 ca,Z1 vi])),aa (.inr (.inl (189,Row.mk dj n2 (cV l0 l1 l2 l3 l4 l5 l6 l7 l8 l9 q9 n5 nh Dx CW CQ Dp Dl Dm CO Di CZ C2 Dg Dj Dv Da C1 Dt Db uC sW)))),aa (.inr (.inl (3,Row.mk [Z1 0] f2 [aW.mk fr [] []]))),aa (.inl (108,[Z1 i,Z1 g]))]))/\(decide (i≥(↑n2:Int))=an->Vc ((0:Int)≤i/\i<(↑n2:Int)/\0+n2≤n2)/\Vc (0+aD i<n2)/\((!aB sW (0+aD i) an)=ao->Vc (0+aD i<n2)/\Vc ((aE !aB sW (0+aD i) an)=aE ao)/\aY (G (aC aj) [aa (.inl (186,[.slice (aa ⟨1,0,aa 32000⟩) n2 cp,.slice (aa ⟨2,0,aa 1000⟩) fn fc,Z1 hd,Z1 ca,Z1 vi])),aa (.inr (.inl (189,Row.mk dj n2 (cV l0 l1 l2 l3 l4 l5 l6 l7 l8 l9 q9 n5 nh Dx CW CQ Dp Dl Dm CO Di CZ C2 Dg Dj Dv Da C1 Dt Db uC sW)))),aa (.inr (.inl (3,Row.mk [Z1 0] f2 [aW.mk fr [] []]))),aa (.inl (108,[Z1 i,Z1 g]))]))/\((!aB sW (0+aD i) an)=an->Vc (0+aD i<n2)/\Vc ((aE !aB sW (0+aD i) an)=aE an)/\Vc (0+aD i<n2)/\((aB uC (0+aD i) (0:Int) != g)=ao->aY (G (aC aj) [aa (.inl (186,[.slice (aa ⟨1,0,aa 32000⟩) n2 cp,.slice (aa ⟨2,0,aa 1000⟩) fn fc,Z1 hd,Z1 ca,Z1 vi])),aa (.inr (.inl (189,Row.mk dj n2 (cV l0 l1 l2 l3 l4 l5 l6 l7 l8 l9 q9 n5 nh Dx CW CQ Dp Dl Dm CO Di CZ C2 Dg Dj Dv Da C1 Dt Db uC sW)))),aa (.inr (.inl (3,Row.mk [Z1 0] f2 [aW.mk fr [] []]))),aa (.inl (108,[Z1 i,Z1 g]))]))/\((aB uC (0+aD i) (0:Int) != g)=an->Vc True/\aY (G (aC (aa (Se 1 (0+aD i) (aa 32000)))) [aa (.inl (186,[.slice (aa ⟨1,0,aa 32000⟩) n2 cp,.slice (aa ⟨2,0,aa 1000⟩) fn fc,Z1 hd,Z1 ca,Z1 (ck ar (vi+(1:Int)))])),aa (.inr (.inl (189,Row.mk dj n2 (cV l0 l1 l2 l3 l4 l5 l6 l7 l8 l9 q9 n5 nh Dx CW CQ Dp Dl Dm CO Di CZ C2 Dg Dj Dv Da C1 Dt Db uC sW)))),aa (.inr (.inl (3,Row.mk [Z1 0] f2 [aW.mk fr [] []]))),aa (.inl (108,[Z1 i,Z1 g]))])))))) ?_ (by kernel_rfl)
  intro Z1;subst Z1;have e0:0+i.toNat=i.toNat:=bW _;rw[e0];clear ou zQ BK yQ yY Fo EY Ey ES EO zx zC zk Nt Nh Om N5 NL ND Ns N_ OA N7 NR Oh N4 Od Na M6 M9 Nl NY;subst hG;have sw:rF n2 uC sW i g=(decide (0≤i)&&decide (i<n2)&&(sW).getD i.toNat an&&decide ((uC).getD i.toNat 0=g)):=rfl;refine⟨fun h=>⟨⟨congrArg aE h⟩,⟨?_⟩⟩,fun h=>⟨⟨congrArg aE h⟩,fun h2=>⟨?_⟩,fun h2=>?_⟩⟩
  rotate_left 2
  ·have i0:=of_decide_eq_false h;have i1:=of_decide_eq_false h2;rw[decide_eq_true (by omega),decide_eq_true (by omega),js,js] at sw
   refine⟨⟨by omega,by omega,by omega⟩,⟨by omega⟩,fun h3=>⟨⟨by omega⟩,⟨congrArg aE h3⟩,⟨?_⟩⟩,fun h3=>⟨⟨by omega⟩,⟨congrArg aE h3⟩,⟨by omega⟩,fun h4=>⟨?_⟩,fun h4=>⟨⟨trivial⟩,⟨?_⟩⟩⟩⟩
   ·rw[Bool.not_eq_true'] at h3;rw[hw,h3] at sw;cases sw
   ·rw[hw,decide_eq_false (ne_of_beq_false (by simpa using h4)),vg] at sw;cases sw
   ·exact⟨[0,1,2],rfl,rfl,⟨.inl rfl,⟨_,rfl,.inl rfl⟩,⟨_,rfl,.inl rfl⟩,trivial⟩,rfl,rfl,rfl,rfl⟩
  ·have:=of_decide_eq_true h;rw[hw,decide_eq_false (by omega)] at sw;cases sw
  ·have:=of_decide_eq_true h2;rw[hw,decide_eq_false (p:=i<n2) (by omega),vg] at sw;cases sw
 ·cases hx
theorem Kr:rR tw Tryz.prog 145 (su q7 an) (q7.go an):=by
 refine wG (fn:=Tryz.f145) (root:=dI Tryz.f145) (by kernel_rfl) (by kernel_rfl) (by kernel_rfl) fun args hh x hx=>?_
 unfold q7 jo.go Le at hx;simp only at hx;split at hx
 ·rename_i i g n cp fn fc hd ca vi tm n2 c0 c1 c2 c3 c4 c5 c6 c7 c8 c9 oW oH oF z_ zK zI zT z6 Aa Aq Ai zY z7 zZ Ao Ah Ak Al Ag zH yE yT f2 fr;cases hx;refine⟨a_ _,(fun b hb=>by cases hb),(fun hw=>by first|rfl|cases hw),fun m7 hv=>?_⟩
  obtain⟨rfl,rfl,ui,⟨⟨l0,rfl,ou⟩,⟨l1,rfl,zQ⟩,⟨l2,rfl,BK⟩,⟨l3,rfl,yQ⟩,⟨l4,rfl,yY⟩,⟨l5,rfl,Fo⟩,⟨l6,rfl,EY⟩,⟨l7,rfl,Ey⟩,⟨l8,rfl,ES⟩,⟨l9,rfl,EO⟩,⟨q9,rfl,zx⟩,⟨n5,rfl,zC⟩,⟨nh,rfl,zk⟩,⟨Dx,rfl,Nt⟩,⟨CW,rfl,Nh⟩,⟨CQ,rfl,Om⟩,⟨Dp,rfl,N5⟩,⟨Dl,rfl,NL⟩,⟨Dm,rfl,ND⟩,⟨CO,rfl,Ns⟩,⟨Di,rfl,N_⟩,⟨CZ,rfl,OA⟩,⟨C2,rfl,N7⟩,⟨Dg,rfl,NR⟩,⟨Dj,rfl,Oh⟩,⟨Dv,rfl,N4⟩,⟨Da,rfl,Od⟩,⟨C1,rfl,Na⟩,⟨Dt,rfl,M6⟩,⟨Db,rfl,M9⟩,⟨uC,rfl,Nl⟩,⟨sW,rfl,NY⟩⟩⟩:=hv;have hw:rF n2 uC sW i g=an:=by
   rcases m7 with⟨h,_⟩|h
   ·exact(wP _ h).elim
   ·exact pw h
  clear m7;generalize hG:cj (R:=Empty) _ _=G;refine cK (T:=VF) Kn mixed 200 ?_;refine bM (q:=let Z1:=bk ar;(decide (i<(0:Int))=ao->Vc (aE (decide (i<(0:Int)))=aE ao)/\aY (G (aC aj) [aa (.inl (186,[.slice (aa ⟨1,0,aa 32000⟩) n2 cp,.slice (aa ⟨2,0,aa 1000⟩) fn fc,Z1 hd,Z1 ca,Z1 vi])),aa (.inr (.inl (189,Row.mk dj n2 (cV l0 l1 l2 l3 l4 l5 l6 l7 l8 l9 q9 n5 nh Dx CW CQ Dp Dl Dm CO Di CZ C2 Dg Dj Dv Da C1 Dt Db uC sW)))),aa (.inr (.inl (3,Row.mk [Z1 0] f2 [aW.mk fr [] []]))),aa (.inl (108,[Z1 i,Z1 g]))]))/\(decide (i<(0:Int))=an->Vc (aE (decide (i<(0:Int)))=aE an)/\(decide (i≥(↑n2:Int))=ao->aY (G (aC aj) [aa (.inl (186,[.slice (aa ⟨1,0,aa 32000⟩) n2 cp,.slice (aa ⟨2,0,aa 1000⟩) fn fc,Z1 hd,Z1 ca,Z1 vi])),aa (.inr (.inl (189,Row.mk dj n2 (cV l0 l1 l2 l3 l4 l5 l6 l7 l8 l9 q9 n5 nh Dx CW CQ Dp Dl Dm CO Di CZ C2 Dg Dj Dv Da C1 Dt Db uC sW)))),aa (.inr (.inl (3,Row.mk [Z1 0] f2 [aW.mk fr [] []]))),aa (.inl (108,[Z1 i,Z1 g]))]))/\(decide (i≥(↑n2:Int))=an->Vc ((0:Int)≤i/\i<(↑n2:Int)/\0+n2≤n2)/\Vc (0+aD i<n2)/\((!aB sW (0+aD i) an)=ao->Vc (0+aD i<n2)/\Vc ((aE !aB sW (0+aD i) an)=aE ao)/\aY (G (aC aj) [aa (.inl (186,[.slice (aa ⟨1,0,aa 32000⟩) n2 cp,.slice (aa ⟨2,0,aa 1000⟩) fn fc,Z1 hd,Z1 ca,Z1 vi])),aa (.inr (.inl (189,Row.mk dj n2 (cV l0 l1 l2 l3 l4 l5 l6 l7 l8 l9 q9 n5 nh Dx CW CQ Dp Dl Dm CO Di CZ C2 Dg Dj Dv Da C1 Dt Db uC sW)))),aa (.inr (.inl (3,Row.mk [Z1 0] f2 [aW.mk fr [] []]))),aa (.inl (108,[Z1 i,Z1 g]))]))/\((!aB sW (0+aD i) an)=an->Vc (0+aD i<n2)/\Vc ((aE !aB sW (0+aD i) an)=aE an)/\Vc (0+aD i<n2)/\((aB uC (0+aD i) (0:Int) != g)=ao->aY (G (aC aj) [aa (.inl (186,[.slice (aa ⟨1,0,aa 32000⟩) n2 cp,.slice (aa ⟨2,0,aa 1000⟩) fn fc,Z1 hd,Z1 ca,Z1 vi])),aa (.inr (.inl (189,Row.mk dj n2 (cV l0 l1 l2 l3 l4 l5 l6 l7 l8 l9 q9 n5 nh Dx CW CQ Dp Dl Dm CO Di CZ C2 Dg Dj Dv Da C1 Dt Db uC sW)))),aa (.inr (.inl (3,Row.mk [Z1 0] f2 [aW.mk fr [] []]))),aa (.inl (108,[Z1 i,Z1 g]))]))/\((aB uC (0+aD i) (0:Int) != g)=an->Vc True/\aY (G (aC (aa (Se 1 (0+aD i) (aa 32000)))) [aa (.inl (186,[.slice (aa ⟨1,0,aa 32000⟩) n2 cp,.slice (aa ⟨2,0,aa 1000⟩) fn fc,Z1 hd,Z1 ca,Z1 (ck ar (vi+(1:Int)))])),aa (.inr (.inl (189,Row.mk dj n2 (cV l0 l1 l2 l3 l4 l5 l6 l7 l8 l9 q9 n5 nh Dx CW CQ Dp Dl Dm CO Di CZ C2 Dg Dj Dv Da C1 Dt Db uC sW)))),aa (.inr (.inl (3,Row.mk [Z1 0] f2 [aW.mk fr [] []]))),aa (.inl (108,[Z1 i,Z1 g]))])))))) ?_ (by kernel_rfl)
  intro Z1;subst Z1;have e0:0+i.toNat=i.toNat:=bW _;rw[e0];clear ou zQ BK yQ yY Fo EY Ey ES EO zx zC zk Nt Nh Om N5 NL ND Ns N_ OA N7 NR Oh N4 Od Na M6 M9 Nl NY;subst hG;have sw:rF n2 uC sW i g=(decide (0≤i)&&decide (i<n2)&&(sW).getD i.toNat an&&decide ((uC).getD i.toNat 0=g)):=rfl;refine⟨fun h=>⟨⟨congrArg aE h⟩,⟨?_⟩⟩,fun h=>⟨⟨congrArg aE h⟩,fun h2=>⟨?_⟩,fun h2=>?_⟩⟩
  rotate_left 2
  ·have i0:=of_decide_eq_false h;have i1:=of_decide_eq_false h2;rw[decide_eq_true (by omega),decide_eq_true (by omega),js,js] at sw
   refine⟨⟨by omega,by omega,by omega⟩,⟨by omega⟩,fun h3=>⟨⟨by omega⟩,⟨congrArg aE h3⟩,⟨?_⟩⟩,fun h3=>⟨⟨by omega⟩,⟨congrArg aE h3⟩,⟨by omega⟩,fun h4=>⟨?_⟩,fun h4=>⟨⟨trivial⟩,⟨?_⟩⟩⟩⟩
   ·exact⟨[0,1,2],rfl,rfl,⟨.inl rfl,⟨_,rfl,.inl rfl⟩,⟨_,rfl,.inl rfl⟩,trivial⟩,rfl,rfl,rfl,rfl⟩
   ·exact⟨[0,1,2],rfl,rfl,⟨.inl rfl,⟨_,rfl,.inl rfl⟩,⟨_,rfl,.inl rfl⟩,trivial⟩,rfl,rfl,rfl,rfl⟩
   ·rw[hw,decide_eq_true (by simpa using h4),Bool.and_true] at sw;rw[Bool.not_eq_false'] at h3;rw[h3] at sw;cases sw
  ·exact⟨[0,1,2],rfl,rfl,⟨.inl rfl,⟨_,rfl,.inl rfl⟩,⟨_,rfl,.inl rfl⟩,trivial⟩,rfl,rfl,rfl,rfl⟩
  ·exact⟨[0,1,2],rfl,rfl,⟨.inl rfl,⟨_,rfl,.inl rfl⟩,⟨_,rfl,.inl rfl⟩,trivial⟩,rfl,rfl,rfl,rfl⟩
 ·cases hx
theorem NX:b8 tw Tryz.prog 145 q7:=fun b=>by cases b;exact Kr;exact Lb
theorem Rg:Vc (fits (-1)):=⟨⟨by omega,by omega⟩⟩
theorem Wi {n:Nat} (h:n<1000000):Vc (0+n≤n/\1≤1/\(n+1)*256≤140737488355328/\n+1≤140737488355328):=⟨by omega,by omega,by omega,by omega⟩
theorem RL {n:Nat} (h:n<1000000):Vc (fits (((n+1:Nat):Int)-1)):=⟨⟨by omega,by omega⟩⟩
theorem Zp (n:Nat):((n+1:Nat):Int)-1=n:=by omega
def aay:List Value->Hp Empty->Option Bool:=fun args hh=>match args,hh with
 |[.pointer (aa ⟨0,0,aj⟩)],[aa (.inl (186,[.slice (aa ⟨1,0,aa 32000⟩) n cp,.slice (aa ⟨2,0,aa 1000⟩) fn fc,.int .i64 hd,.int .i64 ca,.int .i64 vi])),aa (.inr (.inl (189,⟨tm,n2,[c0,c1,c2,c3,c4,c5,c6,c7,c8,c9,oW,oH,oF,z_,zK,zI,zT,z6,Aa,Aq,Ai,zY,z7,zZ,Ao,Ah,Ak,Al,Ag,zH,yE,yT]⟩))),aa (.inr (.inl (3,⟨[.int .i64 0],f2,[⟨fr,[],[]⟩]⟩)))]=>aa (decide (fn=0))
 |_,_=>aj
def O5:Prim Empty:=fun args hh=>match args,hh with
 |[.pointer (aa ⟨0,0,aj⟩)],[aa (.inl (186,[.slice (aa ⟨1,0,aa 32000⟩) n cp,.slice (aa ⟨2,0,aa 1000⟩) fn fc,.int .i64 hd,.int .i64 ca,.int .i64 vi])),aa (.inr (.inl (189,⟨tm,n2,[c0,c1,c2,c3,c4,c5,c6,c7,c8,c9,oW,oH,oF,z_,zK,zI,zT,z6,Aa,Aq,Ai,zY,z7,zZ,Ao,Ah,Ak,Al,Ag,zH,yE,yT]⟩))),aa (.inr (.inl (3,⟨[.int .i64 0],f2,[⟨fr,[],[]⟩]⟩)))]=>aa ⟨fn=0/\f2=fn/\fc=0/\cp=0/\tm=dj/\n2=n/\n<1000000/\m_ n [c0,c1,c2,c3,c4,c5,c6,c7,c8,c9,oW,oH,oF,z_,zK,zI,zT,z6,Aa,Aq,Ai,zY,z7,zZ,Ao,Ah,Ak,Al,Ag,zH,yE,yT],.int .i64 n,aj,[aa (.inl (186,[.slice (aa ⟨3,0,aa 32000⟩) (n+1) 0,.slice (aa ⟨2,0,aa 1000⟩) fn fc,.int .i64 hd,.int .i64 ca,.int .i64 vi])),aj,aa (.inr (.inl (3,⟨[.int .i64 0],f2,[⟨fr,[],[]⟩]⟩))),aa (.inr (.inl (189,⟨tm,(n+1),[⟨c0.i++[0],[],[]⟩,⟨[],c1.b++[an],[]⟩,⟨c2.i++[0],[],[]⟩,⟨c3.i++[0],[],[]⟩,⟨[],c4.b++[an],[]⟩,⟨[],c5.b++[an],[]⟩,⟨c6.i++[0],[],[]⟩,⟨c7.i++[0],[],[]⟩,⟨c8.i++[0],[],[]⟩,⟨c9.i++[0],[],[]⟩,⟨oW.i++[0],[],[]⟩,⟨oH.i++[0],[],[]⟩,⟨oF.i++[0],[],[]⟩,⟨z_.i++[0],[],[]⟩,⟨zK.i++[0],[],[]⟩,⟨zI.i++[0],[],[]⟩,⟨zT.i++[0],[],[]⟩,⟨z6.i++[0],[],[]⟩,⟨Aa.i++[0],[],[]⟩,⟨Aq.i++[0],[],[]⟩,⟨Ai.i++[0],[],[]⟩,⟨zY.i++[0],[],[]⟩,⟨z7.i++[0],[],[]⟩,⟨[],zZ.b++[an],[]⟩,⟨Ao.i++[0],[],[]⟩,⟨Ah.i++[0],[],[]⟩,⟨[],Ak.b++[an],[]⟩,⟨Al.i++[0],[],[]⟩,⟨Ag.i++[0],[],[]⟩,⟨zH.i++[0],[],[]⟩,⟨yE.i++[0],[],[]⟩,⟨[],yT.b++[an],[]⟩]⟩)))],[],[(0,0)]⟩
 |_,_=>aj
def Py:Prim Empty:=fun args hh=>match args,hh with
 |[.pointer (aa ⟨0,0,aj⟩)],[aa (.inl (186,[.slice (aa ⟨1,0,aa 32000⟩) n cp,.slice (aa ⟨2,0,aa 1000⟩) fn fc,.int .i64 hd,.int .i64 ca,.int .i64 vi])),aa (.inr (.inl (189,⟨tm,n2,[c0,c1,c2,c3,c4,c5,c6,c7,c8,c9,oW,oH,oF,z_,zK,zI,zT,z6,Aa,Aq,Ai,zY,z7,zZ,Ao,Ah,Ak,Al,Ag,zH,yE,yT]⟩))),aa (.inr (.inl (3,⟨[.int .i64 0],f2,[⟨fr,[],[]⟩]⟩)))]=>aa ⟨fn≠0/\f2=fn/\fr.length=fn/\fc=0/\cp=0/\fn<1000000/\tm=dj/\n2=n/\n<1000000/\m_ n [c0,c1,c2,c3,c4,c5,c6,c7,c8,c9,oW,oH,oF,z_,zK,zI,zT,z6,Aa,Aq,Ai,zY,z7,zZ,Ao,Ah,Ak,Al,Ag,zH,yE,yT],.int .i64 (fr.getD (fn-1) 0),aj,[aa (.inl (186,[.slice (aa ⟨1,0,aa 32000⟩) n 0,.slice (aa ⟨2,0,aa 1000⟩) (fn-1) 0,.int .i64 hd,.int .i64 ca,.int .i64 vi])),aa (.inr (.inl (189,⟨tm,n2,[c0,c1,c2,c3,c4,c5,c6,c7,c8,c9,oW,oH,oF,z_,zK,zI,zT,z6,Aa,Aq,Ai,zY,z7,zZ,Ao,Ah,Ak,Al,Ag,zH,yE,yT]⟩))),aa (.inr (.inl (3,⟨[.int .i64 0],(fn-1),[⟨(fr.take (fn-1)),[],[]⟩]⟩)))],[],[(0,0)]⟩
 |_,_=>aj
def tQ:jo Empty:=⟨aay,O5,Py⟩
theorem NF:rR tw Tryz.prog 135 (su tQ ao) (tQ.go ao):=by
 refine wG (fn:=Tryz.f135) (root:=dI Tryz.f135) (by kernel_rfl) (by kernel_rfl) (by kernel_rfl) fun args hh x hx=>?_
 unfold tQ jo.go O5 at hx;simp only at hx;split at hx
 ·rename_i n cp fn fc hd ca vi tm n2 c0 c1 c2 c3 c4 c5 c6 c7 c8 c9 oW oH oF z_ zK zI zT z6 Aa Aq Ai zY z7 zZ Ao Ah Ak Al Ag zH yE yT f2 fr;cases hx;refine⟨by first|exact a_ _|exact kZ _,(fun b hb=>by cases hb),(fun hw=>by first|rfl|cases hw),fun m7 hv=>?_⟩
  obtain⟨rfl,rfl,rfl,rfl,hv⟩:=hv;obtain⟨rfl,rfl,ui,⟨⟨l0,rfl,ou⟩,⟨l1,rfl,zQ⟩,⟨l2,rfl,BK⟩,⟨l3,rfl,yQ⟩,⟨l4,rfl,yY⟩,⟨l5,rfl,Fo⟩,⟨l6,rfl,EY⟩,⟨l7,rfl,Ey⟩,⟨l8,rfl,ES⟩,⟨l9,rfl,EO⟩,⟨q9,rfl,zx⟩,⟨n5,rfl,zC⟩,⟨nh,rfl,zk⟩,⟨Dx,rfl,Nt⟩,⟨CW,rfl,Nh⟩,⟨CQ,rfl,Om⟩,⟨Dp,rfl,N5⟩,⟨Dl,rfl,NL⟩,⟨Dm,rfl,ND⟩,⟨CO,rfl,Ns⟩,⟨Di,rfl,N_⟩,⟨CZ,rfl,OA⟩,⟨C2,rfl,N7⟩,⟨Dg,rfl,NR⟩,⟨Dj,rfl,Oh⟩,⟨Dv,rfl,N4⟩,⟨Da,rfl,Od⟩,⟨C1,rfl,Na⟩,⟨Dt,rfl,M6⟩,⟨Db,rfl,M9⟩,⟨uC,rfl,Nl⟩,⟨sW,rfl,NY⟩⟩⟩:=hv;clear m7;generalize hG:cj (R:=Empty) _ _=G;refine cK (T:=[]) trivial mixed 200 ?_;refine bM (q:=let Z2:=bk ar;let Z1:=(0:Int);Vc (fits (-1:Int))/\(ao=ao->Vc (0+n2≤n2/\1≤1/\(n2+1)*256≤140737488355328/\n2+1≤140737488355328)/\Vc (fits ((↑(n2+1):Int)-(1:Int)))/\aY (G (Z2 ((↑(n2+1):Int)-(1:Int))) [aa (.inl (186,[.slice (aa ⟨4,0,aa 32000⟩) (n2+1) 0,.slice (aa ⟨2,0,aa 1000⟩) 0 0,Z2 hd,Z2 ca,Z2 vi])),aj,aa (.inr (.inl (3,Row.mk [Z2 0] 0 [aW.mk fr [] []]))),aa (.inr (.inl (189,Row.mk dj 1 [aW.mk [Z1] [] [],aW.mk [] [an] [],aW.mk [Z1] [] [],aW.mk [Z1] [] [],aW.mk [] [an] [],aW.mk [] [an] [],aW.mk [Z1] [] [],aW.mk [Z1] [] [],aW.mk [Z1] [] [],aW.mk [Z1] [] [],aW.mk [Z1] [] [],aW.mk [Z1] [] [],aW.mk [Z1] [] [],aW.mk [Z1] [] [],aW.mk [Z1] [] [],aW.mk [Z1] [] [],aW.mk [Z1] [] [],aW.mk [Z1] [] [],aW.mk [Z1] [] [],aW.mk [Z1] [] [],aW.mk [Z1] [] [],aW.mk [Z1] [] [],aW.mk [Z1] [] [],aW.mk [] [an] [],aW.mk [Z1] [] [],aW.mk [Z1] [] [],aW.mk [] [an] [],aW.mk [Z1] [] [],aW.mk [Z1] [] [],aW.mk [Z1] [] [],aW.mk [Z1] [] [],aW.mk [] [an] []]))),aa (.inr (.inl (189,Row.mk dj (n2+1) (cV (cut l0 0 n2++[Z1]) (cut l1 0 n2++[an]) (cut l2 0 n2++[Z1]) (cut l3 0 n2++[Z1]) (cut l4 0 n2++[an]) (cut l5 0 n2++[an]) (cut l6 0 n2++[Z1]) (cut l7 0 n2++[Z1]) (cut l8 0 n2++[Z1]) (cut l9 0 n2++[Z1]) (cut q9 0 n2++[Z1]) (cut n5 0 n2++[Z1]) (cut nh 0 n2++[Z1]) (cut Dx 0 n2++[Z1]) (cut CW 0 n2++[Z1]) (cut CQ 0 n2++[Z1]) (cut Dp 0 n2++[Z1]) (cut Dl 0 n2++[Z1]) (cut Dm 0 n2++[Z1]) (cut CO 0 n2++[Z1]) (cut Di 0 n2++[Z1]) (cut CZ 0 n2++[Z1]) (cut C2 0 n2++[Z1]) (cut Dg 0 n2++[an]) (cut Dj 0 n2++[Z1]) (cut Dv 0 n2++[Z1]) (cut Da 0 n2++[an]) (cut C1 0 n2++[Z1]) (cut Dt 0 n2++[Z1]) (cut Db 0 n2++[Z1]) (cut uC 0 n2++[Z1]) (cut sW 0 n2++[an])))))]))/\(ao=an->Vc (Z1≤(-1:Int)/\(-1:Int)<Z1/\0≤0)/\Vc (0<0)/\Vc (Z1≤(-1:Int)/\(-1:Int)≤Z1/\0≤0)/\aY (G (Z2 (aB fr 0 Z1)) [aa (.inl (186,[.slice (aa ⟨1,0,aa 32000⟩) n2 0,.slice (aa ⟨2,0,aa 1000⟩) 0 0,Z2 hd,Z2 ca,Z2 vi])),aa (.inr (.inl (189,Row.mk dj n2 (cV l0 l1 l2 l3 l4 l5 l6 l7 l8 l9 q9 n5 nh Dx CW CQ Dp Dl Dm CO Di CZ C2 Dg Dj Dv Da C1 Dt Db uC sW)))),aa (.inr (.inl (3,Row.mk [Z2 0] 0 [aW.mk fr [] []])))]))) ?_ (by kernel_rfl)
  intro Z2 Z1;subst Z1 Z2;subst hG;refine⟨Rg,fun _=>⟨Wi ui,RL ui,⟨?_⟩⟩,fun h=>by cases h⟩
  simp only[fK ou,fK zQ,fK BK,fK yQ,fK yY,fK Fo,fK EY,fK Ey,fK ES,fK EO,fK zx,fK zC,fK zk,fK Nt,fK Nh,fK Om,fK N5,fK NL,fK ND,fK Ns,fK N_,fK OA,fK N7,fK NR,fK Oh,fK N4,fK Od,fK Na,fK M6,fK M9,fK Nl,fK NY,Zp];exact⟨[0,1,2,4],rfl,rfl,⟨.inl rfl,⟨_,rfl,.inl rfl⟩,⟨_,rfl,.inl rfl⟩,trivial⟩,rfl,rfl,rfl,(by kernel_rfl)⟩
 ·cases hx
theorem Nf:rR tw Tryz.prog 135 (su tQ an) (tQ.go an):=by
 refine wG (fn:=Tryz.f135) (root:=dI Tryz.f135) (by kernel_rfl) (by kernel_rfl) (by kernel_rfl) fun args hh x hx=>?_
 unfold tQ jo.go Py at hx;simp only at hx;split at hx
 ·rename_i n cp fn fc hd ca vi tm n2 c0 c1 c2 c3 c4 c5 c6 c7 c8 c9 oW oH oF z_ zK zI zT z6 Aa Aq Ai zY z7 zZ Ao Ah Ak Al Ag zH yE yT f2 fr;cases hx;refine⟨by first|exact a_ _|exact kZ _,(fun b hb=>by cases hb),(fun hw=>by first|rfl|cases hw),fun m7 hv=>?_⟩
  obtain⟨h0,rfl,hf,rfl,rfl,WQ,hv⟩:=hv;obtain⟨rfl,rfl,ui,⟨⟨l0,rfl,ou⟩,⟨l1,rfl,zQ⟩,⟨l2,rfl,BK⟩,⟨l3,rfl,yQ⟩,⟨l4,rfl,yY⟩,⟨l5,rfl,Fo⟩,⟨l6,rfl,EY⟩,⟨l7,rfl,Ey⟩,⟨l8,rfl,ES⟩,⟨l9,rfl,EO⟩,⟨q9,rfl,zx⟩,⟨n5,rfl,zC⟩,⟨nh,rfl,zk⟩,⟨Dx,rfl,Nt⟩,⟨CW,rfl,Nh⟩,⟨CQ,rfl,Om⟩,⟨Dp,rfl,N5⟩,⟨Dl,rfl,NL⟩,⟨Dm,rfl,ND⟩,⟨CO,rfl,Ns⟩,⟨Di,rfl,N_⟩,⟨CZ,rfl,OA⟩,⟨C2,rfl,N7⟩,⟨Dg,rfl,NR⟩,⟨Dj,rfl,Oh⟩,⟨Dv,rfl,N4⟩,⟨Da,rfl,Od⟩,⟨C1,rfl,Na⟩,⟨Dt,rfl,M6⟩,⟨Db,rfl,M9⟩,⟨uC,rfl,Nl⟩,⟨sW,rfl,NY⟩⟩⟩:=hv;clear m7;generalize hG:cj (R:=Empty) _ _=G;refine cK (T:=[]) trivial mixed 200 ?_;refine bM (q:=let Z2:=bk ar;let Z1:=(0:Int);Vc (fits ((↑f2:Int)-(1:Int)))/\(decide ((↑f2:Int)-(1:Int)<Z1)=ao->Vc (0+n2≤n2/\1≤1/\(n2+1)*256≤140737488355328/\n2+1≤140737488355328)/\Vc (fits ((↑(n2+1):Int)-(1:Int)))/\aY (G (Z2 ((↑(n2+1):Int)-(1:Int))) [aa (.inl (186,[.slice (aa ⟨4,0,aa 32000⟩) (n2+1) 0,.slice (aa ⟨2,0,aa 1000⟩) f2 0,Z2 hd,Z2 ca,Z2 vi])),aj,aa (.inr (.inl (3,Row.mk [Z2 0] f2 [aW.mk fr [] []]))),aa (.inr (.inl (189,Row.mk dj 1 [aW.mk [Z1] [] [],aW.mk [] [an] [],aW.mk [Z1] [] [],aW.mk [Z1] [] [],aW.mk [] [an] [],aW.mk [] [an] [],aW.mk [Z1] [] [],aW.mk [Z1] [] [],aW.mk [Z1] [] [],aW.mk [Z1] [] [],aW.mk [Z1] [] [],aW.mk [Z1] [] [],aW.mk [Z1] [] [],aW.mk [Z1] [] [],aW.mk [Z1] [] [],aW.mk [Z1] [] [],aW.mk [Z1] [] [],aW.mk [Z1] [] [],aW.mk [Z1] [] [],aW.mk [Z1] [] [],aW.mk [Z1] [] [],aW.mk [Z1] [] [],aW.mk [Z1] [] [],aW.mk [] [an] [],aW.mk [Z1] [] [],aW.mk [Z1] [] [],aW.mk [] [an] [],aW.mk [Z1] [] [],aW.mk [Z1] [] [],aW.mk [Z1] [] [],aW.mk [Z1] [] [],aW.mk [] [an] []]))),aa (.inr (.inl (189,Row.mk dj (n2+1) (cV (cut l0 0 n2++[Z1]) (cut l1 0 n2++[an]) (cut l2 0 n2++[Z1]) (cut l3 0 n2++[Z1]) (cut l4 0 n2++[an]) (cut l5 0 n2++[an]) (cut l6 0 n2++[Z1]) (cut l7 0 n2++[Z1]) (cut l8 0 n2++[Z1]) (cut l9 0 n2++[Z1]) (cut q9 0 n2++[Z1]) (cut n5 0 n2++[Z1]) (cut nh 0 n2++[Z1]) (cut Dx 0 n2++[Z1]) (cut CW 0 n2++[Z1]) (cut CQ 0 n2++[Z1]) (cut Dp 0 n2++[Z1]) (cut Dl 0 n2++[Z1]) (cut Dm 0 n2++[Z1]) (cut CO 0 n2++[Z1]) (cut Di 0 n2++[Z1]) (cut CZ 0 n2++[Z1]) (cut C2 0 n2++[Z1]) (cut Dg 0 n2++[an]) (cut Dj 0 n2++[Z1]) (cut Dv 0 n2++[Z1]) (cut Da 0 n2++[an]) (cut C1 0 n2++[Z1]) (cut Dt 0 n2++[Z1]) (cut Db 0 n2++[Z1]) (cut uC 0 n2++[Z1]) (cut sW 0 n2++[an])))))]))/\(decide ((↑f2:Int)-(1:Int)<Z1)=an->Vc (Z1≤(↑f2:Int)-(1:Int)/\(↑f2:Int)-(1:Int)<(↑f2:Int)/\0+f2≤f2)/\Vc (0+aD ((↑f2:Int)-(1:Int))<f2)/\Vc (Z1≤(↑f2:Int)-(1:Int)/\(↑f2:Int)-(1:Int)≤(↑f2:Int)/\0+f2≤f2)/\aY (G (Z2 (aB fr (0+aD ((↑f2:Int)-(1:Int))) Z1)) [aa (.inl (186,[.slice (aa ⟨1,0,aa 32000⟩) n2 0,.slice (aa ⟨2,0,aa 1000⟩) (aD ((↑f2:Int)-(1:Int))) 0,Z2 hd,Z2 ca,Z2 vi])),aa (.inr (.inl (189,Row.mk dj n2 (cV l0 l1 l2 l3 l4 l5 l6 l7 l8 l9 q9 n5 nh Dx CW CQ Dp Dl Dm CO Di CZ C2 Dg Dj Dv Da C1 Dt Db uC sW)))),aa (.inr (.inl (3,Row.mk [Z2 0] f2 [aW.mk fr [] []])))]))) ?_ (by kernel_rfl)
  intro Z2 Z1;subst Z1 Z2;subst hG;clear ou zQ BK yQ yY Fo EY Ey ES EO zx zC zk Nt Nh Om N5 NL ND Ns N_ OA N7 NR Oh N4 Od Na M6 M9 Nl NY;have e1:((f2:Int)-1).toNat=f2-1:=by omega
  simp only[e1,bW];refine⟨⟨by omega,by omega⟩,fun h=>absurd (of_decide_eq_true h) (by omega),fun _=>⟨⟨by omega,by omega,by omega⟩,⟨by omega⟩,⟨by omega,by omega,by omega⟩,⟨?_⟩⟩⟩
  exact⟨[0,1,2],rfl,rfl,⟨.inl rfl,⟨_,rfl,.inl rfl⟩,⟨_,rfl,.inr ⟨rfl,BC _ _,by simp[BU]⟩⟩,trivial⟩,rfl,rfl,rfl,(by kernel_rfl)⟩
 ·cases hx
theorem Ri:b8 tw Tryz.prog 135 tQ:=fun b=>by cases b;exact Nf;exact NF
def TA:eM Empty:=[(135,bJ zN 2 tQ),(145,bJ zN 2 q7)]
theorem xX:cN tw Tryz.prog TA:=⟨aT _ _ Ri,aT _ _ NX,trivial⟩
abbrev PP (m:Pl):Prop:=Gv.gp 100000 m
theorem B4 (m:Pl) (i g:Int):rF m.vs.length m.dG m.live i g=zb m ⟨i,g⟩:=rfl
theorem EV {m:Pl} {i g:Int} (h:zb m ⟨i,g⟩=ao):0≤i/\i<m.vs.length/\m.live.getD i.toNat an=ao/\m.dG.getD i.toNat 0=g:=Gv.sU h
theorem gW {α:Type} (f:Nd->α) (m:Pl) (k:Nat) (a:α) (ha:f zd=a):(m.vs.map f).getD k a=f (m.vs.getD k zd):=by
 subst ha;simp only[au,fu];cases m.vs[k]?<;>rfl
theorem H3 (m:Pl) (k:Nat):gM m.vs k=bj (m.vs.getD k zd):=by
 unfold gM bj;simp only[gW (fun n:Nd=>n.e.t) m _ 0 rfl,gW (fun n:Nd=>n.e.ins) m _ an rfl,gW (fun n:Nd=>n.e.it.k) m _ 0 rfl,gW (fun n:Nd=>n.e.it.i) m _ 0 rfl,gW (fun n:Nd=>n.e.here) m _ an rfl,gW (fun n:Nd=>n.e.tf) m _ an rfl,gW (fun n:Nd=>n.e.tk.k) m _ 0 rfl,gW (fun n:Nd=>n.e.tk.i) m _ 0 rfl,gW (fun n:Nd=>n.l.i) m _ 0 rfl,gW (fun n:Nd=>n.l.g) m _ 0 rfl,gW (fun n:Nd=>n.r.i) m _ 0 rfl,gW (fun n:Nd=>n.r.g) m _ 0 rfl,gW (fun n:Nd=>n.all.n) m _ 0 rfl,gW (fun n:Nd=>n.all.sum.c.n) m _ 0 rfl,gW (fun n:Nd=>n.all.sum.c.s) m _ 0 rfl,gW (fun n:Nd=>n.all.sum.c.l) m _ 0 rfl,gW (fun n:Nd=>n.all.sum.w.n) m _ 0 rfl,gW (fun n:Nd=>n.all.sum.w.s) m _ 0 rfl,gW (fun n:Nd=>n.all.sum.w.l) m _ 0 rfl,gW (fun n:Nd=>n.all.sum.d) m _ 0 rfl,gW (fun n:Nd=>n.all.sum.f) m _ 0 rfl,gW (fun n:Nd=>n.all.sum.m.k) m _ 0 rfl,gW (fun n:Nd=>n.all.sum.m.i) m _ 0 rfl,gW (fun n:Nd=>n.all.sum.gf) m _ an rfl,gW (fun n:Nd=>n.all.sum.g.k) m _ 0 rfl,gW (fun n:Nd=>n.all.sum.g.i) m _ 0 rfl,gW (fun n:Nd=>n.all.sum.lf) m _ an rfl,gW (fun n:Nd=>n.all.sum.l.k) m _ 0 rfl,gW (fun n:Nd=>n.all.sum.l.i) m _ 0 rfl,gW (fun n:Nd=>n.h) m _ 0 rfl]
theorem B3 (m:Pl) (k:Nat) (x:Nd) (g:List Int) (b:List Bool):(⟨dj,m.vs.length,cS m.vs k x g b⟩:Row)=⟨dj,(m.vs.set k x).length,cM (m.vs.set k x) g b⟩:=by
 unfold cS cM;simp only[FW,fh]
theorem gX {α:Type} (f:Nd->α) (m:Pl):(m.vs.map f).length=m.vs.length:=fZ ..
theorem Cv {m:Pl} (hv:PP m):m_ m.vs.length (cM m.vs m.dG m.live):=⟨⟨_,rfl,gX _ m⟩,⟨_,rfl,gX _ m⟩,⟨_,rfl,gX _ m⟩,⟨_,rfl,gX _ m⟩,⟨_,rfl,gX _ m⟩,⟨_,rfl,gX _ m⟩,⟨_,rfl,gX _ m⟩,⟨_,rfl,gX _ m⟩,⟨_,rfl,gX _ m⟩,⟨_,rfl,gX _ m⟩,⟨_,rfl,gX _ m⟩,⟨_,rfl,gX _ m⟩,⟨_,rfl,gX _ m⟩,⟨_,rfl,gX _ m⟩,⟨_,rfl,gX _ m⟩,⟨_,rfl,gX _ m⟩,⟨_,rfl,gX _ m⟩,⟨_,rfl,gX _ m⟩,⟨_,rfl,gX _ m⟩,⟨_,rfl,gX _ m⟩,⟨_,rfl,gX _ m⟩,⟨_,rfl,gX _ m⟩,⟨_,rfl,gX _ m⟩,⟨_,rfl,gX _ m⟩,⟨_,rfl,gX _ m⟩,⟨_,rfl,gX _ m⟩,⟨_,rfl,gX _ m⟩,⟨_,rfl,gX _ m⟩,⟨_,rfl,gX _ m⟩,⟨_,rfl,gX _ m⟩,⟨_,rfl,hv.dG⟩,⟨_,rfl,hv.live⟩⟩
theorem uB {m:Pl} (hv:PP m):True/\True/\m.vs.length<1000000/\m_ m.vs.length (cM m.vs m.dG m.live):=⟨trivial,trivial,by have:=hv.cells;omega,Cv hv⟩
def M':Prim Rs:=fun args hh=>match args,hh with
 |[.int .i64 c],[]=>aa ⟨True,.pointer (aa ⟨0,0,aj⟩),aj,[aa (.inr (.inr (.inr (.db ⟨[],[],[],[],0,min (max c 0) 16777216,0⟩))))],[],[(0,0)]⟩
 |_,_=>aj
theorem VL:b8 D Tryz.prog 130 (a9 M'):=by
 refine qm (rG (L:=L) (D0:=tw) (fn:=Tryz.f130) (root:=dI Tryz.f130) (by kernel_rfl) (by kernel_rfl) (by kernel_rfl) fun args hh x hx=>?_)
 unfold M' at hx;split at hx
 ·rename_i c;cases hx;refine q4 fun _ hv=>?_
  generalize hG:ya (R:=Rs) (R0:=Empty) _ _ _=G;refine cK (T:=TA) xX mixed 200 ?_;refine bM (q:=aY (G (aC (aa ⟨0,0,aj⟩)) [aa (.inl (186,[.slice aj 0 0,.slice aj 0 0,.int ar 0,.int ar (if(16777216:Int)<if(0:Int)>c then(0:Int) else c then(16777216:Int) else if(0:Int)>c then(0:Int) else c),.int ar 0]))])) ?_ (by kernel_rfl)
  subst hG;have e:(if 16777216<if 0>c then 0 else c then 16777216 else if 0>c then 0 else c)=min (max c 0) 16777216:=by
   by_cases h1:0>c
   ·rw[if_pos h1];simp;omega
   ·rw[if_neg h1];split<;>omega
  rw[e];refine⟨⟨[0,1,1],rfl,rfl,⟨.inl rfl,⟨rfl,sZ _,rfl⟩,⟨rfl,sZ _,rfl⟩,trivial⟩,rfl,rfl,rfl,rfl,rfl⟩⟩
 ·cases hx
def Ny:Prim Rs:=fun args hh=>match args,hh with
 |[.pointer (aa ⟨0,0,aj⟩),.agg ⟨[.int .i64 i,.int .i64 g]⟩],[aa (.inr (.inr (.inr (.db m))))]=>aa ⟨PP m,.tuple #[.agg ⟨bj (j3 zd m ⟨i,g⟩)⟩,.bool (zb m ⟨i,g⟩)],aj,[aa (.inr (.inr (.inr (.db (aL m ⟨i,g⟩)))))],[],[(0,0)]⟩
 |_,_=>aj
theorem We:b8 D Tryz.prog 121 (a9 Ny):=by
 refine qm (rG (L:=L) (D0:=tw) (fn:=Tryz.f121) (root:=dI Tryz.f121) (by kernel_rfl) (by kernel_rfl) (by kernel_rfl) fun args hh x hx=>?_)
 unfold Ny at hx;split at hx
 ·rename_i i g m;cases hx;refine q4 fun _ hv=>?_
  generalize hG:ya (R:=Rs) (R0:=Empty) _ _ _=G;refine cK (T:=TA) xX mixed 200 ?_;refine bM (q:=let Z3:=bk ar;let Z1:=(ae (cI m));let Z2:=(bj (fH (Wv.Mk.mk 0 an (cX 0 0) an an (cX 0 0)) (aO 0 0) (aO 0 0) (mJ 0 (Wv.Sw.mk (ja 0 0 0) (ja 0 0 0) 0 0 (cX 0 0) an (cX 0 0) an (cX 0 0))) 0));(rF Z1 (dR m) (e7 m) i g=ao->Vc (dj=dj/\ae (cI m)=ae (cI m)/\ae (cI m)<1000000/\m_ Z1 (cM (cI m) (dR m) (e7 m)))/\Vc (aD i<ae (cI m))/\aY (G (cr (aP [.agg (aP (gM (cI m) (aD i))),.bool ao])) [aa (.inl (186,[.slice (aa ⟨1,0,aa 32000⟩) Z1 0,.slice (aa ⟨2,0,aa 1000⟩) (ae (dY m)) 0,Z3 (fW m),Z3 (iv m),Z3 (ck ar (g_ m+(1:Int)))])),aa (.inr (.inl (189,Row.mk dj Z1 (cM (cI m) (dR m) (e7 m))))),aa (.inr (.inl (3,Row.mk [Z3 0] (ae (dY m)) [aW.mk (dY m) [] []]))),aa (.inl (108,[Z3 i,Z3 g])),aa (.inl (136,(gM (cI m) (aD i))))]))/\(rF Z1 (dR m) (e7 m) i g=an->Vc (dj=dj/\ae (cI m)=ae (cI m)/\ae (cI m)<1000000/\m_ Z1 (cM (cI m) (dR m) (e7 m)))/\aY (G (cr (aP [.agg (aP Z2),.bool an])) [aa (.inl (186,[.slice (aa ⟨1,0,aa 32000⟩) Z1 0,.slice (aa ⟨2,0,aa 1000⟩) (ae (dY m)) 0,Z3 (fW m),Z3 (iv m),Z3 (g_ m)])),aa (.inr (.inl (189,Row.mk dj Z1 (cM (cI m) (dR m) (e7 m))))),aa (.inr (.inl (3,Row.mk [Z3 0] (ae (dY m)) [aW.mk (dY m) [] []]))),aa (.inl (108,[Z3 i,Z3 g])),aa (.inl (136,Z2)),aa (.inl (136,Z2))]))) ?_ (by kernel_rfl)
  intro Z3 Z1 Z2;subst Z2 Z1 Z3;subst hG;simp only[B4,bW];refine⟨fun h=>⟨⟨uB hv⟩,⟨by have:=EV h;omega⟩,⟨?_⟩⟩,fun h=>⟨⟨uB hv⟩,⟨?_⟩⟩⟩
  ·have e1:j3 zd m ⟨i,g⟩=m.vs.getD i.toNat zd:=by unfold j3;rw[if_pos h]
   have e2:aL m ⟨i,g⟩=If m:=by unfold aL;rw[if_pos h]
   rw[H3 m i.toNat,e1,e2,h];exact⟨[0,1,2],rfl,rfl,⟨.inl rfl,⟨_,rfl,.inl rfl⟩,⟨_,rfl,.inl rfl⟩,trivial⟩,rfl,rfl,rfl,rfl,rfl⟩
  ·have e1:j3 zd m ⟨i,g⟩=zd:=by unfold j3;rw[if_neg (by rw[h];decide)]
   have e2:aL m ⟨i,g⟩=m:=by unfold aL;rw[if_neg (by rw[h];decide)]
   rw[e1,e2,h];exact⟨[0,1,2],rfl,rfl,⟨.inl rfl,⟨_,rfl,.inl rfl⟩,⟨_,rfl,.inl rfl⟩,trivial⟩,rfl,rfl,rfl,rfl,rfl⟩
 ·cases hx
def NA:Prim Rs:=fun args hh=>match args,hh with
 |[.pointer (aa ⟨0,0,aj⟩),.agg ⟨[.int .i64 i,.int .i64 g]⟩,.agg ⟨xN⟩],[aa (.inr (.inr (.inr (.db m))))]=>aa ⟨xN=bj (gh xN)/\PP m,.bool (zb m ⟨i,g⟩),aj,[aa (.inr (.inr (.inr (.db (tN m ⟨i,g⟩ (gh xN))))))],[],[(0,0)]⟩
 |_,_=>aj
theorem V6:b8 D Tryz.prog 173 (a9 NA):=by
 refine qm (rG (L:=L) (D0:=tw) (fn:=Tryz.f173) (root:=dI Tryz.f173) (by kernel_rfl) (by kernel_rfl) (by kernel_rfl) fun args hh x hx=>?_)
 unfold NA at hx;split at hx
 ·rename_i i g xN m;cases hx;refine q4 fun _ hv=>?_
  obtain⟨hq,hv⟩:=hv;generalize gh xN=x at *;subst hq
  generalize hG:ya (R:=Rs) (R0:=Empty) _ _ _=G;refine cK (T:=TA) xX mixed 200 ?_;refine bM (q:=let Z2:=bk ar;let Z1:=(ae (cI m));(rF Z1 (dR m) (e7 m) i g=ao->Vc (dj=dj/\ae (cI m)=ae (cI m)/\ae (cI m)<1000000/\m_ Z1 (cM (cI m) (dR m) (e7 m)))/\Vc (aD i<ae (cI m))/\aY (G (aE ao) [aa (.inl (186,[.slice (aa ⟨1,0,aa 32000⟩) Z1 0,.slice (aa ⟨2,0,aa 1000⟩) (ae (dY m)) 0,Z2 (fW m),Z2 (iv m),Z2 (ck ar (g_ m+(1:Int)))])),aa (.inr (.inl (189,Row.mk dj Z1 (cS (cI m) (aD i) x (dR m) (e7 m))))),aa (.inr (.inl (3,Row.mk [Z2 0] (ae (dY m)) [aW.mk (dY m) [] []]))),aa (.inl (108,[Z2 i,Z2 g])),aa (.inl (136,(bj x)))]))/\(rF Z1 (dR m) (e7 m) i g=an->Vc (dj=dj/\ae (cI m)=ae (cI m)/\ae (cI m)<1000000/\m_ Z1 (cM (cI m) (dR m) (e7 m)))/\aY (G (aE an) [aa (.inl (186,[.slice (aa ⟨1,0,aa 32000⟩) Z1 0,.slice (aa ⟨2,0,aa 1000⟩) (ae (dY m)) 0,Z2 (fW m),Z2 (iv m),Z2 (g_ m)])),aa (.inr (.inl (189,Row.mk dj Z1 (cM (cI m) (dR m) (e7 m))))),aa (.inr (.inl (3,Row.mk [Z2 0] (ae (dY m)) [aW.mk (dY m) [] []]))),aa (.inl (108,[Z2 i,Z2 g])),aa (.inl (136,(bj x)))]))) ?_ (by kernel_rfl)
  intro Z2 Z1;subst Z1 Z2;subst hG;simp only[B4,bW];refine⟨fun h=>⟨⟨uB hv⟩,⟨by have:=EV h;omega⟩,⟨?_⟩⟩,fun h=>⟨⟨uB hv⟩,⟨?_⟩⟩⟩
  ·have e2:∀ y,tN m ⟨i,g⟩ y={ If m with vs:=m.vs.set i.toNat y }:=fun y=>by unfold tN;rw[if_pos h]
   rw[e2,h];exact⟨[0,1,2],rfl,rfl,⟨.inl (by rw[fh];rfl),⟨_,rfl,.inl (B3 m i.toNat x _ _).symm⟩,⟨_,rfl,.inl rfl⟩,trivial⟩,rfl,rfl,rfl,rfl,rfl⟩
  ·have e2:∀ y,tN m ⟨i,g⟩ y=m:=fun y=>by unfold tN;rw[if_neg (by rw[h];decide)]
   rw[e2,h];exact⟨[0,1,2],rfl,rfl,⟨.inl rfl,⟨_,rfl,.inl rfl⟩,⟨_,rfl,.inl rfl⟩,trivial⟩,rfl,rfl,rfl,rfl,rfl⟩
 ·cases hx
def B6:Prim Rs:=fun args hh=>match args,hh with
 |[.pointer (aa ⟨0,0,aj⟩)],[aa (.inr (.inr (.inr (.db m))))]=>aa ⟨True,.int .i64 m.cY,aj,hh,[],[]⟩
 |_,_=>aj
theorem K7:b8 D Tryz.prog 117 (a9 B6):=by
 refine qm (rG (L:=L) (D0:=tw) (fn:=Tryz.f117) (root:=dI Tryz.f117) (by kernel_rfl) (by kernel_rfl) (by kernel_rfl) fun args hh x hx=>?_)
 unfold B6 at hx;split at hx
 ·rename_i m;cases hx;refine q4 fun _ hv=>?_
  generalize hG:ya (R:=Rs) (R0:=Empty) _ _ _=G;refine cK (T:=TA) xX mixed 200 ?_;refine bM (q:=let Z1:=bk ar;aY (G (Z1 (g_ m)) [aa (.inl (186,[.slice (aa ⟨1,0,aa 32000⟩) (ae (cI m)) 0,.slice (aa ⟨2,0,aa 1000⟩) (ae (dY m)) 0,Z1 (fW m),Z1 (iv m),Z1 (g_ m)])),aa (.inr (.inl (189,Row.mk dj (ae (cI m)) (cM (cI m) (dR m) (e7 m))))),aa (.inr (.inl (3,Row.mk [Z1 0] (ae (dY m)) [aW.mk (dY m) [] []])))])) ?_ (by kernel_rfl)
  intro Z1;subst Z1;subst hG;exact⟨⟨[0,1,2],rfl,rfl,⟨.inl rfl,⟨_,rfl,.inl rfl⟩,⟨_,rfl,.inl rfl⟩,trivial⟩,rfl,rfl,rfl,rfl,rfl⟩⟩
 ·cases hx
def CH:Prim Rs:=fun args hh=>match args,hh with
 |[.pointer (aa ⟨0,0,aj⟩),.agg ⟨[.int .i64 i,.int .i64 g]⟩],[aa (.inr (.inr (.inr (.db m))))]=>aa ⟨PP m,.tuple #[.agg ⟨bj (j3 zd m ⟨i,g⟩)⟩,.bool (zb m ⟨i,g⟩)],aj,[aa (.inr (.inr (.inr (.db (wI zd m ⟨i,g⟩)))))],[],[(0,0)]⟩
 |_,_=>aj
theorem tK:b8 D Tryz.prog 114 (a9 CH):=by
 refine qm (rG (L:=L) (D0:=tw) (fn:=Tryz.f114) (root:=dI Tryz.f114) (by kernel_rfl) (by kernel_rfl) (by kernel_rfl) fun args hh x hx=>?_)
 unfold CH at hx;split at hx
 ·rename_i i g m;cases hx;refine q4 fun _ hv=>?_
  generalize hG:ya (R:=Rs) (R0:=Empty) _ _ _=G;refine cK (T:=TA) xX mixed 200 ?_;refine bM (q:=let Z7:=bk ar;let Z1:=(ae (cI m));let Z2:=(aD i<ae (cI m));let Z3:=(aB (dR m) (aD i) (0:Int)<(4294967295:Int));let Z4:=(cr (aP [.agg (aP (gM (cI m) (aD i))),.bool ao]));let Z5:=(bj (fH (Wv.Mk.mk 0 an (cX 0 0) an an (cX 0 0)) (aO 0 0) (aO 0 0) (mJ 0 (Wv.Sw.mk (ja 0 0 0) (ja 0 0 0) 0 0 (cX 0 0) an (cX 0 0) an (cX 0 0))) 0));let Z6:=(ae (dY m));(rF Z1 (dR m) (e7 m) i g=ao->Vc (dj=dj/\ae (cI m)=ae (cI m)/\ae (cI m)<1000000/\m_ Z1 (cM (cI m) (dR m) (e7 m)))/\Vc Z2/\Vc Z2/\Vc Z2/\Vc (fits (fW m-(1:Int)))/\Vc Z2/\(decide Z3=ao->Vc (0+ae (dY m)≤ae (dY m)/\1≤1/\(ae (dY m)+1)*8≤140737488355328/\ae (dY m)+1≤140737488355328)/\aY (G Z4 [aa (.inl (186,[.slice (aa ⟨1,0,aa 32000⟩) Z1 0,.slice (aa ⟨8,0,aa 1000⟩) (ae (dY m)+1) 0,Z7 (fW m-(1:Int)),Z7 (iv m),Z7 (ck ar (g_ m+(1:Int)))])),aa (.inr (.inl (189,Row.mk dj Z1 (cS (cI m) (aD i) zd (dR m) (qv (e7 m) (aD i) an))))),aj,aa (.inl (108,[Z7 i,Z7 g])),aa (.inl (136,(gM (cI m) (aD i)))),aa (.inl (136,Z5)),aa (.inl (136,(gM (cI m) (aD i)))),aa (.inr (.inl (3,Row.mk [Z7 0] 1 [aW.mk [i] [] []]))),aa (.inr (.inl (3,Row.mk [Z7 0] (ae (dY m)+1) [aW.mk (cut (dY m) 0 Z6++cut [i] 0 1) [] []])))]))/\(decide Z3=an->aY (G Z4 [aa (.inl (186,[.slice (aa ⟨1,0,aa 32000⟩) Z1 0,.slice (aa ⟨2,0,aa 1000⟩) Z6 0,Z7 (fW m-(1:Int)),Z7 (iv m),Z7 (ck ar (g_ m+(1:Int)))])),aa (.inr (.inl (189,Row.mk dj Z1 (cS (cI m) (aD i) zd (dR m) (qv (e7 m) (aD i) an))))),aa (.inr (.inl (3,Row.mk [Z7 0] Z6 [aW.mk (dY m) [] []]))),aa (.inl (108,[Z7 i,Z7 g])),aa (.inl (136,(gM (cI m) (aD i)))),aa (.inl (136,Z5)),aa (.inl (136,(gM (cI m) (aD i))))])))/\(rF Z1 (dR m) (e7 m) i g=an->Vc (dj=dj/\ae (cI m)=ae (cI m)/\ae (cI m)<1000000/\m_ Z1 (cM (cI m) (dR m) (e7 m)))/\aY (G (cr (aP [.agg (aP Z5),.bool an])) [aa (.inl (186,[.slice (aa ⟨1,0,aa 32000⟩) Z1 0,.slice (aa ⟨2,0,aa 1000⟩) Z6 0,Z7 (fW m),Z7 (iv m),Z7 (g_ m)])),aa (.inr (.inl (189,Row.mk dj Z1 (cM (cI m) (dR m) (e7 m))))),aa (.inr (.inl (3,Row.mk [Z7 0] Z6 [aW.mk (dY m) [] []]))),aa (.inl (108,[Z7 i,Z7 g])),aa (.inl (136,Z5)),aa (.inl (136,Z5))]))) ?_ (by kernel_rfl)
  intro Z7 Z1 Z2 Z3 Z4 Z5 Z6;subst Z6 Z5 Z4 Z3 Z2 Z1 Z7;subst hG;simp only[B4,bW];have hgb:=DJ (i:=i.toNat) hv.gen;have hhl:=hv.Ss;have hfr:=hv.pX;refine⟨fun h=>?_,fun h=>⟨⟨uB hv⟩,⟨?_⟩⟩⟩
  ·have cd:i.toNat<m.vs.length:=by have:=EV h;omega
   have g3:m.dG.getD i.toNat 0<4294967295:=by omega
   have e1:j3 zd m ⟨i,g⟩=m.vs.getD i.toNat zd:=by unfold j3;rw[if_pos h]
   have e2:wI zd m ⟨i,g⟩={ If m with vs:=m.vs.set i.toNat zd,live:=m.live.set i.toNat an,held:=m.held-1,free:=m.free++[i] }:=by unfold wI;rw[if_pos h,if_pos g3]
   have ec:cut m.free 0 m.free.length++cut [i] 0 1=m.free++[i]:=by rw[fK rfl];rfl
   rw[ec];refine⟨⟨uB hv⟩,⟨cd⟩,⟨cd⟩,⟨cd⟩,⟨⟨by omega,by omega⟩⟩,⟨cd⟩,fun _=>⟨⟨by omega,by omega,by omega,by omega⟩,⟨?_⟩⟩,fun h2=>absurd g3 (of_decide_eq_false h2)⟩
   rw[H3 m i.toNat,e1,e2,h];exact⟨[0,1,8],rfl,rfl,⟨.inl (by rw[fh,bE];rfl),⟨_,rfl,.inl (B3 m i.toNat zd _ _).symm⟩,⟨_,rfl,.inl (by rw[bE];rfl)⟩,trivial⟩,rfl,rfl,rfl,rfl,rfl⟩
  ·have e1:j3 zd m ⟨i,g⟩=zd:=by unfold j3;rw[if_neg (by rw[h];decide)]
   have e2:wI zd m ⟨i,g⟩=m:=by unfold wI;rw[if_neg (by rw[h];decide)]
   rw[e1,e2,h];exact⟨[0,1,2],rfl,rfl,⟨.inl rfl,⟨_,rfl,.inl rfl⟩,⟨_,rfl,.inl rfl⟩,trivial⟩,rfl,rfl,rfl,rfl,rfl⟩
 ·cases hx
theorem Q1 (m:Pl) (k:Nat) (x:Nd) (g:List Int) (b:List Bool):(⟨dj,m.vs.length+1,cG m.vs k x g b⟩:Row)=⟨dj,((m.vs++[zd]).set k x).length,cM ((m.vs++[zd]).set k x) g b⟩:=by
 unfold cG cM;simp only[FW,dM,fh,bE,gC,List.map_nil,cy,jX]
 rfl
theorem EA {m:Pl} (h0:m.held=m.cap) (x:Nd):tX zd m x=m/\lD zd m=⟨0,0⟩:=by
 unfold tX lD;rw[if_pos h0,if_pos h0];exact⟨rfl,rfl⟩
theorem Fy {m:Pl} (h0:¬ m.held=m.cap) (hf:m.free.length=0) (x:Nd):tX zd m x=⟨(m.vs++[zd]).set m.vs.length x,(m.dG++[0]).set m.vs.length ((m.dG++[0]).getD m.vs.length 0+1),(m.live++[an]).set m.vs.length ao,m.free,m.held+1,m.cap,m.cY⟩/\lD zd m=⟨m.vs.length,(m.dG++[0]).getD m.vs.length 0+1⟩:=by
 have en:vU m=m.vs.length:=by rw[vU,if_pos hf]
 unfold tX lD Gv.Be Lm;rw[if_neg h0,if_neg h0];simp only[if_pos hf,en,iS]
 constructor<;>first|rfl|trivial
theorem E5 {m:Pl} (h0:¬ m.held=m.cap) (hf:¬ m.free.length=0) (x:Nd):tX zd m x=⟨m.vs.set (m.free.getD (m.free.length-1) 0).toNat x,m.dG.set (m.free.getD (m.free.length-1) 0).toNat (m.dG.getD (m.free.getD (m.free.length-1) 0).toNat 0+1),m.live.set (m.free.getD (m.free.length-1) 0).toNat ao,m.free.take (m.free.length-1),m.held+1,m.cap,m.cY⟩/\lD zd m=⟨m.free.getD (m.free.length-1) 0,m.dG.getD (m.free.getD (m.free.length-1) 0).toNat 0+1⟩:=by
 have en:vU m=m.free.getD (m.free.length-1) 0:=by rw[vU,if_neg hf]
 unfold tX lD Gv.Be Lm;rw[if_neg h0,if_neg h0];simp only[if_neg hf,en]
 constructor<;>first|rfl|trivial
structure Bds (m:Pl):Prop where
 dG:m.dG.length=m.vs.length
 cells:m.vs.length<1000000
 pX:m.free.length<1000000
 held:-1000000≤m.held/\m.held<1000000
 gen:∀ i,0≤m.dG.getD i 0/\m.dG.getD i 0≤100000
 last:¬ m.free.length=0->0≤m.free.getD (m.free.length-1) 0/\m.free.getD (m.free.length-1) 0<m.vs.length
theorem bds {m:Pl} (hv:PP m):Bds m:=by
 have v1:=hv.dG;have v3:=hv.cells;have v4:=hv.pX;have v5:=hv.Ss;refine⟨v1,by omega,by omega,by omega,fun i=>?_,fun h=>?_⟩
 ·have:=DJ (i:=i) hv.gen;omega
 ·have:=hv.inn _ (zA (d:=0) (l:=m.free) (i:=m.free.length-1) (by omega))
  exact⟨this.1,this.2.1⟩
theorem FE (l:List Int) (k:Nat) (x:Int) (h:k<l.length):(l.set k x).getD k 0=x:=by
 rw[oJ,if_pos ⟨rfl,h⟩]
def Je:Prim Rs:=fun args hh=>match args,hh with
 |[.pointer (aa ⟨0,0,aj⟩),.agg ⟨xN⟩],[aa (.inr (.inr (.inr (.db m))))]=>aa ⟨xN=bj (gh xN)/\PP m,.tuple #[.agg ⟨[.int .i64 (lD zd m).i,.int .i64 (lD zd m).g]⟩,.bool (!decide (m.held=m.cap))],aj,[aa (.inr (.inr (.inr (.db (tX zd m (gh xN))))))],[],[(0,0)]⟩
 |_,_=>aj
theorem tU:b8 D Tryz.prog 97 (a9 Je):=by
 refine qm (rG (L:=L) (D0:=tw) (fn:=Tryz.f97) (root:=dI Tryz.f97) (by kernel_rfl) (by kernel_rfl) (by kernel_rfl) fun args hh x hx=>?_)
 unfold Je at hx;split at hx
 ·rename_i xN m;cases hx;refine q4 fun _ hv=>?_
  obtain⟨hq,hv⟩:=hv;generalize gh xN=x at *;subst hq
  generalize hG:ya (R:=Rs) (R0:=Empty) _ _ _=G;refine cK (T:=TA) xX mixed 200 ?_;refine bM (q:=let cq:=bk ar;let Z1:=(cI m);let Z2:=(ae Z1);let Z3:=(dY m);let Z4:=(cM Z1 (dR m) (e7 m));let Z5:=(aB (dR m++[(0:Int)]) (0+(Z2:Int).toNat) (0:Int)+(1:Int));let Z6:=(qv (dR m++[(0:Int)]) (0+(Z2:Int).toNat) Z5);let Z7:=(ae Z3-1);let Z8:=(aB Z3 Z7 (0:Int));let Z9:=(aB (dR m) (0+aD Z8) (0:Int)+(1:Int));let dJ:=(aB (qv (dR m) (0+aD Z8) Z9) (0+aD Z8) (0:Int));((fW m==iv m)=ao->aY (G (cr (aP [.agg (aP [cq 0,cq 0]),.bool an])) [aa (.inl (186,[.slice (aa ⟨1,0,aa 32000⟩) Z2 0,.slice (aa ⟨2,0,aa 1000⟩) (ae Z3) 0,cq (fW m),cq (iv m),cq (g_ m)])),aa (.inr (.inl (189,Row.mk dj Z2 Z4))),aa (.inr (.inl (3,Row.mk [cq 0] (ae Z3) [aW.mk Z3 [] []]))),aa (.inl (136,(bj x))),aa (.inl (108,[cq 0,cq 0]))]))/\((fW m==iv m)=an->(decide (ae Z3=0)=ao->Vc (ae Z3=0/\ae Z3=ae Z3/\0=0/\0=0/\dj=dj/\ae Z1=ae Z1/\ae Z1<1000000/\m_ Z2 Z4)/\Vc ((0:Int)≤(↑Z2:Int)/\(↑Z2:Int)<(↑(ae Z1+1):Int)/\0+(ae Z1+1)≤ae Z1+1)/\Vc (0+(Z2:Int).toNat<ae Z1+1)/\Vc (0+(Z2:Int).toNat<ae Z1+1)/\Vc (0+(Z2:Int).toNat<ae Z1+1)/\Vc (fits Z5)/\Vc (0+(Z2:Int).toNat<ae Z1+1)/\Vc (fits (fW m+(1:Int)))/\Vc (0+(Z2:Int).toNat<ae Z1+1)/\aY (G (cr (aP [.agg (aP [cq (↑Z2:Int),cq (aB Z6 (0+(Z2:Int).toNat) (0:Int))]),.bool ao])) [aa (.inl (186,[.slice (aa ⟨5,0,aa 32000⟩) (ae Z1+1) 0,.slice (aa ⟨2,0,aa 1000⟩) (ae Z3) 0,cq (fW m+(1:Int)),cq (iv m),cq (g_ m)])),aj,aa (.inr (.inl (3,Row.mk [cq 0] (ae Z3) [aW.mk Z3 [] []]))),aa (.inl (136,(bj x))),aa (.inl (108,[cq (↑Z2:Int),cq (aB Z6 (0+(Z2:Int).toNat) (0:Int))])),aa (.inr (.inl (189,Row.mk dj (ae Z1+1) (cG Z1 (0+(Z2:Int).toNat) x Z6 (qv (e7 m++[an]) (0+(Z2:Int).toNat) ao)))))]))/\(decide (ae Z3=0)=an->Vc (ae Z3≠0/\ae Z3=ae Z3/\ae Z3=ae Z3/\0=0/\0=0/\ae Z3<1000000/\dj=dj/\ae Z1=ae Z1/\ae Z1<1000000/\m_ Z2 Z4)/\Vc ((0:Int)≤aB Z3 Z7 (0:Int)/\aB Z3 Z7 (0:Int)<(↑Z2:Int)/\0+ae Z1≤ae Z1)/\Vc (0+aD Z8<ae Z1)/\Vc (0+aD Z8<ae Z1)/\Vc (0+aD Z8<ae Z1)/\Vc (fits Z9)/\Vc (0+aD Z8<ae Z1)/\Vc (fits (fW m+(1:Int)))/\Vc (0+aD Z8<ae Z1)/\aY (G (cr (aP [.agg (aP [cq Z8,cq dJ]),.bool ao])) [aa (.inl (186,[.slice (aa ⟨1,0,aa 32000⟩) Z2 0,.slice (aa ⟨2,0,aa 1000⟩) Z7 0,cq (fW m+(1:Int)),cq (iv m),cq (g_ m)])),aa (.inr (.inl (189,Row.mk dj Z2 (cS Z1 (0+aD Z8) x (qv (dR m) (0+aD Z8) Z9) (qv (e7 m) (0+aD Z8) ao))))),aa (.inr (.inl (3,Row.mk [cq 0] Z7 [aW.mk (List.take Z7 Z3) [] []]))),aa (.inl (136,(bj x))),aa (.inl (108,[cq Z8,cq dJ]))])))) ?_ (by kernel_rfl)
  intro cq Z1 Z2 Z3 Z4 Z5 Z6 Z7 Z8 Z9 dJ;subst dJ Z9 Z8 Z7 Z6 Z5 Z4 Z3 Z2 Z1 cq;subst hG;simp only[bW,iS];have hb:=bds hv;refine⟨fun h=>?_,fun h=>⟨fun hf=>?_,fun hf=>?_⟩⟩
  ·have h0:m.held=m.cap:=eq_of_beq h;rw[(EA h0 x).1,(EA h0 x).2,decide_eq_true h0];exact⟨⟨[0,1,2],rfl,rfl,⟨.inl rfl,⟨_,rfl,.inl rfl⟩,⟨_,rfl,.inl rfl⟩,trivial⟩,rfl,rfl,rfl,rfl,rfl⟩⟩
  ·have h0:¬ m.held=m.cap:=fun c=>by rw[c,beq_self_eq_true] at h;cases h
   have h1:m.free.length=0:=of_decide_eq_true hf;have hk:m.vs.length<(m.dG++[0]).length:=by rw[bE,hb.dG];exact fI _
   have e1:(m.dG++[0]).getD m.vs.length 0=0:=by rw[uV,if_pos hb.dG.symm]
   rw[(Fy h0 h1 x).1,(Fy h0 h1 x).2,decide_eq_false h0,FE _ _ _ hk];refine⟨⟨h1,trivial,trivial,trivial,trivial,trivial,hb.cells,Cv hv⟩,⟨by omega,by omega,a_ _⟩,⟨fI _⟩,⟨fI _⟩,⟨fI _⟩,⟨by rw[e1];exact⟨by omega,by omega⟩⟩,⟨fI _⟩,⟨by have:=hb.held;exact⟨by omega,by omega⟩⟩,⟨fI _⟩,⟨[0,5,2],rfl,rfl,?_,rfl,rfl,rfl,rfl,rfl⟩⟩
   exact⟨.inl (by rw[fh,bE];rfl),⟨_,rfl,.inl (Q1 m m.vs.length x _ _).symm⟩,⟨_,rfl,.inl rfl⟩,trivial⟩
  ·have h0:¬ m.held=m.cap:=fun c=>by rw[c,beq_self_eq_true] at h;cases h
   have h1:¬ m.free.length=0:=of_decide_eq_false hf;have hl:=hb.last h1;have hk:(m.free.getD (m.free.length-1) 0).toNat<m.vs.length:=by omega
   rw[(E5 h0 h1 x).1,(E5 h0 h1 x).2,decide_eq_false h0,FE _ _ _ (by rw[hb.dG];exact hk)]
   refine⟨⟨h1,trivial,trivial,trivial,trivial,hb.pX,trivial,trivial,hb.cells,Cv hv⟩,⟨hl.1,hl.2,a_ _⟩,⟨hk⟩,⟨hk⟩,⟨hk⟩,⟨by have:=hb.gen (m.free.getD (m.free.length-1) 0).toNat;exact⟨by omega,by omega⟩⟩,⟨hk⟩,⟨by have:=hb.held;exact⟨by omega,by omega⟩⟩,⟨hk⟩,⟨[0,1,2],rfl,rfl,?_,rfl,rfl,rfl,rfl,rfl⟩⟩
   exact⟨.inl (by rw[fh,ej,tY (BC _ _)];rfl),⟨_,rfl,.inl (B3 m _ x _ _).symm⟩,⟨_,rfl,.inl (by rw[ej,tY (BC _ _)])⟩,trivial⟩
 ·cases hx
end G8
namespace Rx
open Go.RowKit State
theorem oX {R:Type} {D:fR R} {P:Program} {T:eM R} (hT:cN D P T) (Mp:P.follows .mixedOrders=ao) {root:Code} {n0:Nat} {k:Exit->SS R->Prop} (n:Nat) {todo:List (It R)} {σ:SS R} {q:Prop} (hq:q)
  (e:rx D P T root n0 k n todo σ=q):At D P root n0 k todo σ:=cK hT Mp n (by rw[e];exact hq)
end Rx
namespace Wv
open Rx
set_option maxRecDepth 100000
def aev {R:Type}:Prim R:=fun args hh=>match args,hh with
 |[.int .i64 a],[]=>aa ⟨True,.bool an,aj,hh,[],[]⟩
 |_,_=>aj
theorem ali {R:Type} {D:fR R}:b8 D Tryz.prog 176 (a9 aev):=by
 refine fx Tryz.f176 fun args hh x hx=>?_
 unfold aev at hx;split at hx
 ·rename_i a;cases hx;refine q4 fun _ hv=>?_
  generalize hG:cj (R:=R) _ _=G;refine oX (T:=[]) trivial mixed 200 (q:=aY (G (aE (a != a)) [])) ?_ (by kernel_rfl)
  subst hG
  repeat' (first|apply cZ|apply Vc.mk|apply fits.mk|intro h|apply aY.mk)
  all_goals (try simp only[sB] at *)
  all_goals first|contradiction|omega|exact jF ‹_›|exact jH ‹_›|exact jG ‹_›|exact⟨rfl,by omega⟩|exact rfl|(simp[*,-au];done)|skip
  rw[show(a != a)=an by simp]
  exact⟨[],rfl,rfl,trivial,rfl,rfl,rfl,rfl⟩
 ·cases hx
def ajJ {R:Type}:eM R:=[(176,bJ zN 2 (a9 aev))]
theorem agB {R:Type} {D:fR R}:cN D Tryz.prog (ajJ:eM R):=⟨aT _ _ ali,trivial⟩
def TV {R:Type}:Prim R:=fun args hh=>match args,hh with
 |[.int .i64 a,.int .i64 b],[]=>aa ⟨True,.int .i64 (C0 a b),aj,hh,[],[]⟩
 |_,_=>aj
theorem YR {R:Type} {D:fR R}:b8 D Tryz.prog 162 (a9 TV):=by
 refine fx Tryz.f162 fun args hh x hx=>?_
 unfold TV at hx;split at hx
 ·rename_i a b;cases hx;refine q4 fun _ hv=>?_
  generalize hG:cj (R:=R) _ _=G;refine oX (T:=ajJ) agB mixed 200 (q:=let Z1:=bk ar;Vc True/\Vc True/\(an=ao->(an=ao->aY (G (Z1 0) []))/\(an=an->aY (G (Z1 (-1:Int)) [])))/\(an=an->(an=ao->aY (G (Z1 1) []))/\(an=an->(decide (a<b)=ao->aY (G (Z1 (-1:Int)) []))/\(decide (a<b)=an->(decide (a>b)=ao->aY (G (Z1 1) []))/\(decide (a>b)=an->aY (G (Z1 0) [])))))) ?_ (by kernel_rfl)
  intro Z1;subst Z1;have fin:∀ (t:Int) (hp:Hp R),t=C0 a b->G (.int .i64 t) hp:=by
   intro t hp ht;subst ht;subst hG;exact⟨⟨[],rfl,rfl,trivial,rfl,rfl,rfl,rfl⟩⟩
  clear hG
  repeat' (first|apply cZ|apply Vc.mk|apply fits.mk|intro h|apply aY.mk)
  all_goals (try simp only[sB] at *)
  all_goals first|contradiction|omega|exact jF ‹_›|exact jH ‹_›|exact jG ‹_›|exact⟨rfl,by omega⟩|exact rfl|(simp[*,-au];done)|skip
  ·have h:a<b:=by assumption
   exact fin _ _ (by rw[C0,if_pos h])
  ·have h2:a>b:=by assumption
   exact fin _ _ (by rw[C0,if_neg (by omega),if_pos h2])
  ·exact fin _ _ (by rw[C0,if_neg (by omega),if_neg (by omega)])
 ·cases hx
def SY (a b:Int):Int:=if a≠0 then a else b
def aem {R:Type}:Prim R:=fun args hh=>match args,hh with
 |[.slice (aa ⟨0,0,aa 1000⟩) n c],[aa (.inr (.inr (.inl ⟨[.int .i64 0],n',[⟨[a,b],[],[]⟩]⟩)))]=>aa ⟨n=2/\n'=2,.int .i64 (SY a b),aj,hh,[],[]⟩
 |_,_=>aj
theorem akL {R:Type} {D:fR R}:b8 D Tryz.prog 161 (a9 aem):=by
 refine fx Tryz.f161 fun args hh x hx=>?_
 unfold aem at hx;split at hx
 ·rename_i n c n' a b;cases hx;refine q4 fun _ hv=>?_
  obtain⟨rfl,rfl⟩:=hv;generalize hG:cj (R:=R) _ _=G;refine oX (T:=[]) trivial mixed 200 (q:=let Z1:=bk ar;At D Tryz.prog (dI Tryz.f161) 1 (iB Tryz.prog (dw (dx Tryz.f161)) G) [dg [1,1,0,1,0],kz (dg 0),dg [1,1,1]] (SS.mk (aa (br (aa ⟨0,0,aa 1000⟩) 2 c)::aj::aa (Z1 0)::aa (Z1 0)::aj::aj::aa (br (aa ⟨0,0,aa 1000⟩) 2 c)::aa (Z1 2)::aa (Z1 0)::n4 (n4 (aj::[]))) [] [aa (kz (kz (dg (Row.mk [Z1 0] 2 [aW.mk [a,b] [] []]))))])) ?_ (by kernel_rfl)
  intro Z1;subst Z1;refine kC (by kernel_rfl) (ι:=Nat) (fun x=>x≤2/\(1≤x->a=0)/\(2≤x->b=0)) [2,3,6,7,8] (fun x=>[.int .i64 0,.int .i64 0,.slice (aa ⟨0,0,aa 1000⟩) 2 c,.int .i64 2,.int .i64 x]) (fun x=>[aa (.inr (.inr (.inl ⟨[.int .i64 0],2,[⟨[a,b],[],[]⟩]⟩)))]) (fun x=>2-x) 18 (fun x hx=>⟨rfl,rfl,by simp⟩) ⟨0,⟨dv _,fun h=>by omega,fun h=>by omega⟩,⟨[0],rfl,⟨rfl,trivial⟩,rfl,rfl,rfl,rfl⟩⟩ fun x hx=>?_
  refine oX (T:=[]) trivial mixed 200 (q:=let Z2:=bk ar;let Z1:=(aB [a,b] (0+(x:Int).toNat) (0:Int) != (0:Int));(decide ((↑x:Int)<(2:Int))=ao->Vc ((0:Int)≤(↑x:Int)/\(↑x:Int)<(2:Int)/\2≤2)/\Vc (0+(x:Int).toNat<2)/\(Z1=ao->aY (G (Z2 (aB [a,b] (0+(x:Int).toNat) (0:Int))) [aa (kz (kz (dg (Row.mk [Z2 0] 2 [aW.mk [a,b] [] []]))))]))/\(Z1=an->Vc (fits ((↑x:Int)+(1:Int)))/\aY (∃ j,(j≤2/\(1≤j->a=(0:Int))/\(2≤j->b=(0:Int)))/\2-j<2-x/\jJ R 1 18 [2,3,6,7,8] [Z2 0,Z2 0,.slice (aa ⟨0,0,aa 1000⟩) 2 c,Z2 2,Z2 (↑j:Int)] [aa (kz (kz (dg (Row.mk [Z2 0] 2 [aW.mk [a,b] [] []]))))] [aa (Z2 0),aa (Z2 0),aa (br (aa ⟨0,0,aa 1000⟩) 2 c),aa (Z2 2),aa (Z2 ((↑x:Int)+(1:Int)))] [aa (kz (kz (dg (Row.mk [Z2 0] 2 [aW.mk [a,b] [] []]))))] 18)))/\(decide ((↑x:Int)<(2:Int))=an->aY (G (Z2 0) [aa (kz (kz (dg (Row.mk [Z2 0] 2 [aW.mk [a,b] [] []]))))]))) ?_ (by kernel_rfl)
  intro Z2 Z1;subst Z1 Z2;obtain⟨h1,h2,h3⟩:=hx;have fin:∀ (t:Int) (rest:Hp R),t=SY a b->G (.int .i64 t) ([aa (.inr (.inr (.inl ⟨[.int .i64 0],2,[⟨[a,b],[],[]⟩]⟩)))]++rest):=by
   intro t hp ht;subst ht;subst hG;exact⟨⟨[0],rfl,rfl,⟨rfl,trivial⟩,rfl,rfl,rfl,rfl⟩⟩
  clear hG;rcases(show x=0∨x=1∨x=2 by omega) with e|e|e<;>subst e
  ·have g0:[a,b].getD (0+((0:Nat):Int).toNat) 0=a:=rfl;rw[g0]
   repeat' (first|apply cZ|apply Vc.mk|apply fits.mk|intro h|apply aY.mk)
   all_goals (try simp only[sB] at *)
   all_goals first|contradiction|omega|exact jF ‹_›|exact jH ‹_›|exact jG ‹_›|exact⟨rfl,by omega⟩|exact rfl|(simp[*,-au];done)|skip
   ·have h:a≠0:=by assumption
    exact fin _ [] (by rw[SY,if_pos h])
   ·have h:a=0:=by assumption
    exact⟨1,⟨by omega,fun _=>h,fun h=>by omega⟩,by omega,⟨[0],rfl,⟨rfl,trivial⟩,rfl,rfl,rfl,rfl⟩⟩
  ·have g0:[a,b].getD (0+((1:Nat):Int).toNat) 0=b:=rfl;rw[g0];have h0:=h2 (a_ _)
   repeat' (first|apply cZ|apply Vc.mk|apply fits.mk|intro h|apply aY.mk)
   all_goals (try simp only[sB] at *)
   all_goals first|contradiction|omega|exact jF ‹_›|exact jH ‹_›|exact jG ‹_›|exact⟨rfl,by omega⟩|exact rfl|(simp[*,-au];done)|skip
   ·exact fin _ [] (by rw[SY,if_neg (by omega)])
   ·have h:b=0:=by assumption
    exact⟨2,⟨by omega,fun _=>h0,fun _=>h⟩,by omega,⟨[0],rfl,⟨rfl,trivial⟩,rfl,rfl,rfl,rfl⟩⟩
  ·have h0:=h2 (by omega)
   have h1:=h3 (by omega)
   repeat' (first|apply cZ|apply Vc.mk|apply fits.mk|intro h|apply aY.mk)
   all_goals (try simp only[sB] at *)
   all_goals first|contradiction|omega|exact jF ‹_›|exact jH ‹_›|exact jG ‹_›|exact⟨rfl,by omega⟩|exact rfl|(simp[*,-au];done)|skip
   all_goals first|(exfalso;omega)|skip
   exact fin _ [] (by rw[SY,if_neg (by omega),h1])
 ·cases hx
def z0:Nat->Bool:=fun j=>fj j 0
def TCm {R:Type}:eM R:=[(162,bJ zN 2 (a9 TV)),(161,s_ z0 2 (a9 aem))]
theorem ajh {R:Type} {D:fR R}:cN D Tryz.prog (TCm:eM R):=⟨aT _ _ YR,nE _ _ akL,trivial⟩
theorem agz (a b c d:Int):SY (C0 a c) (C0 b d)=kX ⟨a,b⟩ ⟨c,d⟩:=by
 unfold SY C0 kX;simp only
 repeat' split
 all_goals omega
def aaE {R:Type}:Prim R:=fun args hh=>match args,hh with
 |[.agg ⟨[.int .i64 a,.int .i64 b]⟩,.agg ⟨[.int .i64 c,.int .i64 d]⟩],[]=>aa ⟨True,.int .i64 (kX ⟨a,b⟩ ⟨c,d⟩),aj,hh,[],[]⟩
 |_,_=>aj
theorem abe {R:Type} {D:fR R}:b8 D Tryz.prog 140 (a9 aaE):=by
 refine fx Tryz.f140 fun args hh x hx=>?_
 unfold aaE at hx;split at hx
 ·rename_i a b c d;cases hx;refine q4 fun _ hv=>?_
  generalize hG:cj (R:=R) _ _=G;refine oX (T:=TCm) ajh mixed 200 (q:=let Z1:=bk ar;Vc True/\Vc True/\Vc ((2≤2/\True)/\2=2/\2=2)/\aY (G (Z1 (SY (C0 a c) (C0 b d))) [aa (dg (31,[Z1 a,Z1 b])),aa (dg (31,[Z1 c,Z1 d])),aa (kz (dg (3,Row.mk [Z1 0] 2 [aW.mk [C0 a c,C0 b d] [] []])))])) ?_ (by kernel_rfl)
  intro Z1;subst Z1;subst hG;simp only[← agz]
  repeat' (first|apply cZ|apply Vc.mk|apply fits.mk|intro h|apply aY.mk)
  all_goals (try simp only[sB] at *)
  all_goals first|contradiction|omega|exact jF ‹_›|exact jH ‹_›|exact jG ‹_›|exact⟨rfl,by omega⟩|exact rfl|(simp[*,-au];done)|skip
  exact⟨[],rfl,rfl,trivial,rfl,rfl,rfl,rfl⟩
 ·cases hx
def TCc {R:Type}:eM R:=[(162,bJ zN 2 (a9 TV))]
theorem alr {R:Type} {D:fR R}:cN D Tryz.prog (TCc:eM R):=⟨aT _ _ YR,trivial⟩
def TPl {R:Type}:eM R:=[(227,bJ zN 2 (a9 Ti.ef))]
theorem acL {R:Type} {D:fR R}:cN D Tryz.prog TPl:=⟨aT _ _ Ti.uX,trivial⟩
def aeb {R:Type}:Prim R:=fun args hh=>match args,hh with
 |[.slice (aa ⟨0,0,aa 1000⟩) n c],[aa (.inr (.inr (.inl ⟨[.int .i64 0],n',[⟨[w],[],[]⟩]⟩)))]=>aa ⟨n=1/\n'=1,.agg ⟨[.int .i64 1,.int .i64 w,.int .i64 w]⟩,aj,hh,[],[]⟩
 |_,_=>aj
theorem akl {R:Type} {D:fR R}:b8 D Tryz.prog 226 (a9 aeb):=by
 refine fx Tryz.f226 fun args hh x hx=>?_
 unfold aeb at hx;split at hx
 ·rename_i n c n' w;cases hx;refine q4 fun _ hv=>?_
  obtain⟨rfl,rfl⟩:=hv;generalize hG:cj (R:=R) _ _=G;refine oX (T:=TPl) acL mixed 200 (q:=let Z1:=bk ar;At D Tryz.prog (dI Tryz.f226) 1 (iB Tryz.prog (dw (dx Tryz.f226)) G) [dg [1,1,0,1,0],kz (dg 0),dg [1,1,1]] (SS.mk (aa (br (aa ⟨0,0,aa 1000⟩) 1 c)::aj::aa (aC (aa ⟨1,0,aj⟩))::aa (aC (aa ⟨2,0,aj⟩))::aj::aj::aa (br (aa ⟨0,0,aa 1000⟩) 1 c)::aa (Z1 1)::aa (Z1 0)::n4 (n4 (aj::aj::[]))) [] [aa (kz (kz (dg (Row.mk [Z1 0] 1 [aW.mk [w] [] []])))),aa (dg (51,[Z1 0,Z1 0,Z1 0])),aa (dg (51,[Z1 0,Z1 0,Z1 0]))])) ?_ (by kernel_rfl)
  intro Z1;subst Z1;refine kC (by kernel_rfl) (ι:=Nat×Ti.Td) (fun x=>x.1≤1/\x.2=if x.1=0 then⟨0,0,0⟩ else⟨1,w,w⟩) [2,3,6,7,8] (fun x=>[.pointer (aa ⟨1,0,aj⟩),.pointer (aa ⟨2,0,aj⟩),.slice (aa ⟨0,0,aa 1000⟩) 1 c,.int .i64 1,.int .i64 x.1]) (fun x=>[aa (.inr (.inr (.inl ⟨[.int .i64 0],1,[⟨[w],[],[]⟩]⟩))),aa (.inl (51,[.int .i64 0,.int .i64 0,.int .i64 0])),aa (.inl (51,[.int .i64 x.2.n,.int .i64 x.2.s,.int .i64 x.2.l]))]) (fun x=>1-x.1) 19 (fun x hx=>⟨rfl,rfl,by simp⟩) ⟨(0,⟨0,0,0⟩),⟨dv _,rfl⟩,⟨[0,1,2],rfl,⟨rfl,.inl rfl,.inl rfl,trivial⟩,rfl,rfl,rfl,rfl⟩⟩ fun x hx=>?_
  refine oX (T:=TPl) acL mixed 200 (q:=let Z3:=bk ar;let Z1:=(↑(ay x):Int);let Z2:=(QJ (av x) (ja (1:Int) (aB [w] (0+aD Z1) (0:Int)) (aB [w] (0+aD Z1) (0:Int))));(decide (Z1<(1:Int))=ao->Vc ((0:Int)≤Z1/\Z1<(1:Int)/\1≤1)/\Vc (0+aD Z1<1)/\Vc True/\Vc (fits (Z1+(1:Int)))/\aY (∃ j,(ay j≤1/\av j=if ay j=0 then ja (0:Int) (0:Int) (0:Int) else ja (1:Int) w w)/\1-ay j<1-ay x/\jJ R 1 19 [2,3,6,7,8] [.pointer (aa ⟨1,0,aj⟩),.pointer (aa ⟨2,0,aj⟩),.slice (aa ⟨0,0,aa 1000⟩) 1 c,Z3 1,Z3 (↑(ay j):Int)] [aa (kz (kz (dg (Row.mk [Z3 0] 1 [aW.mk [w] [] []])))),aa (dg ((51:TypeId),[Z3 0,Z3 0,Z3 0])),aa (dg ((51:TypeId),[Z3 (pH (av j)),Z3 (pI (av j)),Z3 (pJ (av j))]))] [aa (aC (aa ⟨1,0,aj⟩)),aa (aC (aa ⟨2,0,aj⟩)),aa (br (aa ⟨0,0,aa 1000⟩) 1 c),aa (Z3 1),aa (Z3 (Z1+(1:Int)))] [aa (kz (kz (dg (Row.mk [Z3 0] 1 [aW.mk [w] [] []])))),aa (dg (51,[Z3 0,Z3 0,Z3 0])),aa (dg (51,[Z3 (pH Z2),Z3 (pI Z2),Z3 (pJ Z2)]))] 19))/\(decide (Z1<(1:Int))=an->aY (G (bG (aP [Z3 (pH (av x)),Z3 (pI (av x)),Z3 (pJ (av x))])) [aa (kz (kz (dg (Row.mk [Z3 0] 1 [aW.mk [w] [] []])))),aa (dg (51,[Z3 (pH (av x)),Z3 (pI (av x)),Z3 (pJ (av x))])),aa (dg (51,[Z3 (pH (av x)),Z3 (pI (av x)),Z3 (pJ (av x))]))]))) ?_ (by kernel_rfl)
  intro Z3 Z1 Z2;subst Z2 Z1 Z3;obtain⟨i,t⟩:=x;obtain⟨h1,h2⟩:=hx;rcases(show i=0∨i=1 by omega) with hi|hi
  ·have ht:t=⟨0,0,0⟩:=h2.trans (if_pos hi);rw[hi,ht];refine⟨fun h=>⟨⟨by omega,by omega,a_ _⟩,⟨QK⟩,⟨trivial⟩,⟨⟨by omega,by omega⟩⟩,⟨(1,⟨1,w,w⟩),⟨a_ _,rfl⟩,QK,⟨[0,1,2],rfl,⟨rfl,.inl rfl,.inl rfl,trivial⟩,rfl,rfl,rfl,rfl⟩⟩⟩,fun h=>by simp at h⟩
  ·have ht:t=⟨1,w,w⟩:=h2.trans (if_neg (show ¬ i=0 by omega))
   rw[hi,ht];refine⟨fun h=>by simp at h,fun h=>⟨?_⟩⟩
   subst hG;exact⟨⟨[0],rfl,rfl,⟨rfl,trivial⟩,rfl,rfl,rfl,rfl⟩⟩
 ·cases hx
def TOf {R:Type}:eM R:=[(226,s_ z0 2 (a9 aeb))]
theorem adg {R:Type} {D:fR R}:cN D Tryz.prog (TOf:eM R):=⟨nE _ _ akl,trivial⟩
def ZS {R:Type}:Prim R:=fun args hh=>match args,hh with
 |[.agg ⟨[.int .i64 a,.int .i64 b]⟩,.bool hr],[]=>aa ⟨True,.agg ⟨[.int .i64 (sP ⟨a,b⟩ hr).c.n,.int .i64 (sP ⟨a,b⟩ hr).c.s,.int .i64 (sP ⟨a,b⟩ hr).c.l,.int .i64 (sP ⟨a,b⟩ hr).w.n,.int .i64 (sP ⟨a,b⟩ hr).w.s,.int .i64 (sP ⟨a,b⟩ hr).w.l,.int .i64 (sP ⟨a,b⟩ hr).d,.int .i64 (sP ⟨a,b⟩ hr).f,.int .i64 (sP ⟨a,b⟩ hr).m.k,.int .i64 (sP ⟨a,b⟩ hr).m.i,.bool (sP ⟨a,b⟩ hr).gf,.int .i64 (sP ⟨a,b⟩ hr).g.k,.int .i64 (sP ⟨a,b⟩ hr).g.i,.bool (sP ⟨a,b⟩ hr).lf,.int .i64 (sP ⟨a,b⟩ hr).l.k,.int .i64 (sP ⟨a,b⟩ hr).l.i]⟩,aj,hh,[],[]⟩
 |_,_=>aj
theorem ahU {R:Type} {D:fR R}:b8 D Tryz.prog 224 (a9 ZS):=by
 refine fx Tryz.f224 fun args hh x hx=>?_
 unfold ZS at hx;split at hx
 ·rename_i a b hr;cases hx;refine q4 fun _ hv=>?_
  generalize hG:cj (R:=R) _ _=G;refine oX (T:=TOf) adg mixed 200 (q:=let Z1:=bk ar;(hr=ao->Vc ((1≤1/\True)/\1=1/\1=1)/\Vc ((1≤1/\True)/\1=1/\1=1)/\aY (G (bG (aP [Z1 1,Z1 1,Z1 1,Z1 1,Z1 0,Z1 0,Z1 0,Z1 0,Z1 0,Z1 0,.bool an,Z1 0,Z1 0,.bool ao,Z1 a,Z1 b])) [aa (dg (31,[Z1 a,Z1 b])),aa (dg (53,[Z1 1,Z1 1,Z1 1,Z1 1,Z1 0,Z1 0,Z1 0,Z1 0,Z1 0,Z1 0,.bool an,Z1 0,Z1 0,.bool ao,Z1 a,Z1 b])),aa (dg (47,[.bool ao,Z1 a,Z1 b])),aa (kz (dg (3,Row.mk [Z1 0] 1 [aW.mk [(1:Int)] [] []]))),aa (kz (dg (3,Row.mk [Z1 0] 1 [aW.mk [(0:Int)] [] []])))]))/\(hr=an->Vc ((1≤1/\True)/\1=1/\1=1)/\Vc ((1≤1/\True)/\1=1/\1=1)/\aY (G (bG (aP [Z1 1,Z1 1,Z1 1,Z1 1,Z1 1,Z1 1,Z1 0,Z1 0,Z1 0,Z1 0,.bool ao,Z1 a,Z1 b,.bool an,Z1 0,Z1 0])) [aa (dg (31,[Z1 a,Z1 b])),aa (dg (53,[Z1 1,Z1 1,Z1 1,Z1 1,Z1 1,Z1 1,Z1 0,Z1 0,Z1 0,Z1 0,.bool ao,Z1 a,Z1 b,.bool an,Z1 0,Z1 0])),aa (dg (47,[.bool ao,Z1 a,Z1 b])),aa (kz (dg (3,Row.mk [Z1 0] 1 [aW.mk [(1:Int)] [] []]))),aa (kz (dg (3,Row.mk [Z1 0] 1 [aW.mk [(1:Int)] [] []])))]))) ?_ (by kernel_rfl)
  intro Z1;subst Z1;have fin:∀ (z:Sw) (hp:Hp R),z=sP ⟨a,b⟩ hr->G (.agg ⟨[.int .i64 z.c.n,.int .i64 z.c.s,.int .i64 z.c.l,.int .i64 z.w.n,.int .i64 z.w.s,.int .i64 z.w.l,.int .i64 z.d,.int .i64 z.f,.int .i64 z.m.k,.int .i64 z.m.i,.bool z.gf,.int .i64 z.g.k,.int .i64 z.g.i,.bool z.lf,.int .i64 z.l.k,.int .i64 z.l.i]⟩) hp:=by
   intro z hp ht;subst ht;subst hG;exact⟨⟨[],rfl,rfl,trivial,rfl,rfl,rfl,rfl⟩⟩
  clear hG
  repeat' (first|apply cZ|apply Vc.mk|apply fits.mk|intro h|apply aY.mk)
  all_goals (try simp only[sB] at *)
  all_goals first|contradiction|omega|exact jF ‹_›|exact jH ‹_›|exact jG ‹_›|exact⟨rfl,by omega⟩|exact rfl|(simp[*,-au];done)|skip
  ·have h:hr=ao:=by assumption
   exact fin ⟨⟨1,1,1⟩,⟨1,0,0⟩,0,0,⟨0,0⟩,an,⟨0,0⟩,ao,⟨a,b⟩⟩ _ (by rw[sP,if_pos h])
  ·have h:hr=an:=by assumption
   exact fin ⟨⟨1,1,1⟩,⟨1,1,1⟩,0,0,⟨0,0⟩,ao,⟨a,b⟩,an,⟨0,0⟩⟩ _ (by rw[sP,if_neg (by rw[h];decide)])
 ·cases hx
def ZH {R:Type}:Prim R:=fun args hh=>match args,hh with
 |[.agg ⟨[.bool a,.int .i64 b,.int .i64 c]⟩],[]=>aa ⟨True,.agg ⟨[.int .i64 (sI a ⟨b,c⟩).c.n,.int .i64 (sI a ⟨b,c⟩).c.s,.int .i64 (sI a ⟨b,c⟩).c.l,.int .i64 (sI a ⟨b,c⟩).w.n,.int .i64 (sI a ⟨b,c⟩).w.s,.int .i64 (sI a ⟨b,c⟩).w.l,.int .i64 (sI a ⟨b,c⟩).d,.int .i64 (sI a ⟨b,c⟩).f,.int .i64 (sI a ⟨b,c⟩).m.k,.int .i64 (sI a ⟨b,c⟩).m.i,.bool (sI a ⟨b,c⟩).gf,.int .i64 (sI a ⟨b,c⟩).g.k,.int .i64 (sI a ⟨b,c⟩).g.i,.bool (sI a ⟨b,c⟩).lf,.int .i64 (sI a ⟨b,c⟩).l.k,.int .i64 (sI a ⟨b,c⟩).l.i]⟩,aj,hh,[],[]⟩
 |_,_=>aj
theorem ahp {R:Type} {D:fR R}:b8 D Tryz.prog 225 (a9 ZH):=by
 refine fx Tryz.f225 fun args hh x hx=>?_
 unfold ZH at hx;split at hx
 ·rename_i a b c;cases hx;refine q4 fun _ hv=>?_
  generalize hG:cj (R:=R) _ _=G;refine oX (T:=TOf) adg mixed 200 (q:=let Z1:=bk ar;Vc ((1≤1/\True)/\1=1/\1=1)/\Vc ((1≤1/\True)/\1=1/\1=1)/\(a=ao->aY (G (bG (aP [Z1 1,Z1 (-1:Int),Z1 (-1:Int),Z1 1,Z1 (-1:Int),Z1 (-1:Int),Z1 1,Z1 0,Z1 b,Z1 c,.bool an,Z1 0,Z1 0,.bool an,Z1 0,Z1 0])) [aa (dg (47,[.bool a,Z1 b,Z1 c])),aa (dg (53,[Z1 1,Z1 (-1:Int),Z1 (-1:Int),Z1 1,Z1 (-1:Int),Z1 (-1:Int),Z1 1,Z1 0,Z1 b,Z1 c,.bool an,Z1 0,Z1 0,.bool an,Z1 0,Z1 0])),aa (kz (dg (3,Row.mk [Z1 0] 1 [aW.mk [(-1:Int)] [] []]))),aa (kz (dg (3,Row.mk [Z1 0] 1 [aW.mk [(-1:Int)] [] []]))),aa (dg (53,[Z1 1,Z1 (-1:Int),Z1 (-1:Int),Z1 1,Z1 (-1:Int),Z1 (-1:Int),Z1 1,Z1 0,Z1 b,Z1 c,.bool an,Z1 0,Z1 0,.bool an,Z1 0,Z1 0]))]))/\(a=an->aY (G (bG (aP [Z1 1,Z1 (-1:Int),Z1 (-1:Int),Z1 1,Z1 (-1:Int),Z1 (-1:Int),Z1 1,Z1 1,Z1 0,Z1 0,.bool an,Z1 0,Z1 0,.bool an,Z1 0,Z1 0])) [aa (dg (47,[.bool a,Z1 b,Z1 c])),aa (dg (53,[Z1 1,Z1 (-1:Int),Z1 (-1:Int),Z1 1,Z1 (-1:Int),Z1 (-1:Int),Z1 1,Z1 1,Z1 0,Z1 0,.bool an,Z1 0,Z1 0,.bool an,Z1 0,Z1 0])),aa (kz (dg (3,Row.mk [Z1 0] 1 [aW.mk [(-1:Int)] [] []]))),aa (kz (dg (3,Row.mk [Z1 0] 1 [aW.mk [(-1:Int)] [] []]))),aa (dg (53,[Z1 1,Z1 (-1:Int),Z1 (-1:Int),Z1 1,Z1 (-1:Int),Z1 (-1:Int),Z1 1,Z1 1,Z1 0,Z1 0,.bool an,Z1 0,Z1 0,.bool an,Z1 0,Z1 0]))]))) ?_ (by kernel_rfl)
  intro Z1;subst Z1;have fin:∀ (z:Sw) (hp:Hp R),z=sI a ⟨b,c⟩->G (.agg ⟨[.int .i64 z.c.n,.int .i64 z.c.s,.int .i64 z.c.l,.int .i64 z.w.n,.int .i64 z.w.s,.int .i64 z.w.l,.int .i64 z.d,.int .i64 z.f,.int .i64 z.m.k,.int .i64 z.m.i,.bool z.gf,.int .i64 z.g.k,.int .i64 z.g.i,.bool z.lf,.int .i64 z.l.k,.int .i64 z.l.i]⟩) hp:=by
   intro z hp ht;subst ht;subst hG;exact⟨⟨[],rfl,rfl,trivial,rfl,rfl,rfl,rfl⟩⟩
  clear hG
  repeat' (first|apply cZ|apply Vc.mk|apply fits.mk|intro h|apply aY.mk)
  all_goals (try simp only[sB] at *)
  all_goals first|contradiction|omega|exact jF ‹_›|exact jH ‹_›|exact jG ‹_›|exact⟨rfl,by omega⟩|exact rfl|(simp[*,-au];done)|skip
  ·have h:a=ao:=by assumption
   exact fin ⟨⟨1,-1,-1⟩,⟨1,-1,-1⟩,1,0,⟨b,c⟩,an,⟨0,0⟩,an,⟨0,0⟩⟩ _ (by rw[sI,if_pos h])
  ·have h:a=an:=by assumption
   exact fin ⟨⟨1,-1,-1⟩,⟨1,-1,-1⟩,1,1,⟨0,0⟩,an,⟨0,0⟩,an,⟨0,0⟩⟩ _ (by rw[sI,if_neg (by rw[h];decide)])
 ·cases hx
def akz {R:Type}:eM R:=[(224,bJ zN 2 (a9 ZS)),(225,bJ zN 2 (a9 ZH))]
theorem ahs {R:Type} {D:fR R}:cN D Tryz.prog (akz:eM R):=⟨aT _ _ ahU,aT _ _ ahp,trivial⟩
def aaz {R:Type}:Prim R:=fun args hh=>match args,hh with
 |[.agg ⟨[.int .i64 k0,.bool k1,.int .i64 k2,.int .i64 k3,.bool k4,.bool k5,.int .i64 k6,.int .i64 k7]⟩],[]=>aa ⟨True,.agg ⟨[.int .i64 (O8.sum (⟨k0,k1,⟨k2,k3⟩,k4,k5,⟨k6,k7⟩⟩:Mk)).c.n,.int .i64 (O8.sum (⟨k0,k1,⟨k2,k3⟩,k4,k5,⟨k6,k7⟩⟩:Mk)).c.s,.int .i64 (O8.sum (⟨k0,k1,⟨k2,k3⟩,k4,k5,⟨k6,k7⟩⟩:Mk)).c.l,.int .i64 (O8.sum (⟨k0,k1,⟨k2,k3⟩,k4,k5,⟨k6,k7⟩⟩:Mk)).w.n,.int .i64 (O8.sum (⟨k0,k1,⟨k2,k3⟩,k4,k5,⟨k6,k7⟩⟩:Mk)).w.s,.int .i64 (O8.sum (⟨k0,k1,⟨k2,k3⟩,k4,k5,⟨k6,k7⟩⟩:Mk)).w.l,.int .i64 (O8.sum (⟨k0,k1,⟨k2,k3⟩,k4,k5,⟨k6,k7⟩⟩:Mk)).d,.int .i64 (O8.sum (⟨k0,k1,⟨k2,k3⟩,k4,k5,⟨k6,k7⟩⟩:Mk)).f,.int .i64 (O8.sum (⟨k0,k1,⟨k2,k3⟩,k4,k5,⟨k6,k7⟩⟩:Mk)).m.k,.int .i64 (O8.sum (⟨k0,k1,⟨k2,k3⟩,k4,k5,⟨k6,k7⟩⟩:Mk)).m.i,.bool (O8.sum (⟨k0,k1,⟨k2,k3⟩,k4,k5,⟨k6,k7⟩⟩:Mk)).gf,.int .i64 (O8.sum (⟨k0,k1,⟨k2,k3⟩,k4,k5,⟨k6,k7⟩⟩:Mk)).g.k,.int .i64 (O8.sum (⟨k0,k1,⟨k2,k3⟩,k4,k5,⟨k6,k7⟩⟩:Mk)).g.i,.bool (O8.sum (⟨k0,k1,⟨k2,k3⟩,k4,k5,⟨k6,k7⟩⟩:Mk)).lf,.int .i64 (O8.sum (⟨k0,k1,⟨k2,k3⟩,k4,k5,⟨k6,k7⟩⟩:Mk)).l.k,.int .i64 (O8.sum (⟨k0,k1,⟨k2,k3⟩,k4,k5,⟨k6,k7⟩⟩:Mk)).l.i]⟩,aj,hh,[],[]⟩
 |_,_=>aj
theorem agG {R:Type} {D:fR R}:b8 D Tryz.prog 223 (a9 aaz):=by
 refine fx Tryz.f223 fun args hh x hx=>?_
 unfold aaz at hx;split at hx
 ·rename_i k0 k1 k2 k3 k4 k5 k6 k7;cases hx;refine q4 fun _ hv=>?_
  generalize hG:cj (R:=R) _ _=G;refine oX (T:=akz) ahs mixed 200 (q:=let Z3:=bk ar;let Z1:=(sP (It.mk k2 k3) k4);let Z2:=(sI k5 (It.mk k6 k7));(k1=ao->Vc True/\aY (G (bG (aP [Z3 (pH (Sw.c Z1)),Z3 (pI (Sw.c Z1)),Z3 (pJ (Sw.c Z1)),Z3 (pH (Sw.w Z1)),Z3 (pI (Sw.w Z1)),Z3 (pJ (Sw.w Z1)),Z3 (Sw.d Z1),Z3 (Sw.f Z1),Z3 (It.k (Sw.m Z1)),Z3 (It.i (Sw.m Z1)),.bool (Sw.gf Z1),Z3 (It.k (Sw.g Z1)),Z3 (It.i (Sw.g Z1)),.bool (Sw.lf Z1),Z3 (It.k (Sw.l Z1)),Z3 (It.i (Sw.l Z1))])) [aa (dg (49,[Z3 k0,.bool k1,Z3 k2,Z3 k3,.bool k4,.bool k5,Z3 k6,Z3 k7])),aa (dg (53,[Z3 (pH (Sw.c Z1)),Z3 (pI (Sw.c Z1)),Z3 (pJ (Sw.c Z1)),Z3 (pH (Sw.w Z1)),Z3 (pI (Sw.w Z1)),Z3 (pJ (Sw.w Z1)),Z3 (Sw.d Z1),Z3 (Sw.f Z1),Z3 (It.k (Sw.m Z1)),Z3 (It.i (Sw.m Z1)),.bool (Sw.gf Z1),Z3 (It.k (Sw.g Z1)),Z3 (It.i (Sw.g Z1)),.bool (Sw.lf Z1),Z3 (It.k (Sw.l Z1)),Z3 (It.i (Sw.l Z1))]))]))/\(k1=an->Vc True/\aY (G (bG (aP [Z3 (pH (Sw.c Z2)),Z3 (pI (Sw.c Z2)),Z3 (pJ (Sw.c Z2)),Z3 (pH (Sw.w Z2)),Z3 (pI (Sw.w Z2)),Z3 (pJ (Sw.w Z2)),Z3 (Sw.d Z2),Z3 (Sw.f Z2),Z3 (It.k (Sw.m Z2)),Z3 (It.i (Sw.m Z2)),.bool (Sw.gf Z2),Z3 (It.k (Sw.g Z2)),Z3 (It.i (Sw.g Z2)),.bool (Sw.lf Z2),Z3 (It.k (Sw.l Z2)),Z3 (It.i (Sw.l Z2))])) [aa (dg (49,[Z3 k0,.bool k1,Z3 k2,Z3 k3,.bool k4,.bool k5,Z3 k6,Z3 k7])),aa (dg (53,[Z3 (pH (Sw.c Z2)),Z3 (pI (Sw.c Z2)),Z3 (pJ (Sw.c Z2)),Z3 (pH (Sw.w Z2)),Z3 (pI (Sw.w Z2)),Z3 (pJ (Sw.w Z2)),Z3 (Sw.d Z2),Z3 (Sw.f Z2),Z3 (It.k (Sw.m Z2)),Z3 (It.i (Sw.m Z2)),.bool (Sw.gf Z2),Z3 (It.k (Sw.g Z2)),Z3 (It.i (Sw.g Z2)),.bool (Sw.lf Z2),Z3 (It.k (Sw.l Z2)),Z3 (It.i (Sw.l Z2))]))]))) ?_ (by kernel_rfl)
  intro Z3 Z1 Z2;subst Z2 Z1 Z3;have fin:∀ (z:Sw) (hp:Hp R),z=O8.sum (⟨k0,k1,⟨k2,k3⟩,k4,k5,⟨k6,k7⟩⟩:Mk)->G (.agg ⟨[.int .i64 z.c.n,.int .i64 z.c.s,.int .i64 z.c.l,.int .i64 z.w.n,.int .i64 z.w.s,.int .i64 z.w.l,.int .i64 z.d,.int .i64 z.f,.int .i64 z.m.k,.int .i64 z.m.i,.bool z.gf,.int .i64 z.g.k,.int .i64 z.g.i,.bool z.lf,.int .i64 z.l.k,.int .i64 z.l.i]⟩) hp:=by
   intro z hp ht;subst ht;subst hG;exact⟨⟨[],rfl,rfl,trivial,rfl,rfl,rfl,rfl⟩⟩
  clear hG
  repeat' (first|apply cZ|apply Vc.mk|apply fits.mk|intro h|apply aY.mk)
  all_goals (try simp only[sB] at *)
  all_goals first|contradiction|omega|exact jF ‹_›|exact jH ‹_›|exact jG ‹_›|exact⟨rfl,by omega⟩|exact rfl|(simp[*,-au];done)|skip
  ·have h:k1=ao:=by assumption
   exact fin (sP ⟨k2,k3⟩ k4) _ (by show _=if k1=ao then _ else _;rw[if_pos h])
  ·have h:k1=an:=by assumption
   exact fin (sI k5 ⟨k6,k7⟩) _ (by show _=if k1=ao then _ else _;rw[if_neg (by rw[h];decide)])
 ·cases hx
def IB {R:Type}:Prim R:=fun args hh=>match args,hh with
 |[.agg ⟨[.int .i64 k0,.bool k1,.int .i64 k2,.int .i64 k3,.bool k4,.bool k5,.int .i64 k6,.int .i64 k7]⟩,.agg ⟨[.int .i64 x0,.bool x1,.int .i64 x2,.int .i64 x3,.bool x4,.bool x5,.int .i64 x6,.int .i64 x7]⟩],[]=>aa ⟨True,.int .i64 (O8.cmp (⟨k0,k1,⟨k2,k3⟩,k4,k5,⟨k6,k7⟩⟩:Mk) (⟨x0,x1,⟨x2,x3⟩,x4,x5,⟨x6,x7⟩⟩:Mk)),aj,hh,[],[]⟩
 |_,_=>aj
theorem Cg {R:Type} {D:fR R}:b8 D Tryz.prog 222 (a9 IB):=by
 refine fx Tryz.f222 fun args hh x hx=>?_
 unfold IB at hx;split at hx
 ·rename_i k0 k1 k2 k3 k4 k5 k6 k7 x0 x1 x2 x3 x4 x5 x6 x7;cases hx;refine q4 fun _ hv=>?_
  generalize hG:cj (R:=R) _ _=G;refine oX (T:=TCc) alr mixed 200 (q:=let Z1:=bk ar;Vc True/\aY (G (Z1 (C0 k0 x0)) [aa (dg (49,[Z1 k0,.bool k1,Z1 k2,Z1 k3,.bool k4,.bool k5,Z1 k6,Z1 k7])),aa (dg (49,[Z1 x0,.bool x1,Z1 x2,Z1 x3,.bool x4,.bool x5,Z1 x6,Z1 x7]))])) ?_ (by kernel_rfl)
  intro Z1;subst Z1;subst hG
  repeat' (first|apply cZ|apply Vc.mk|apply fits.mk|intro h|apply aY.mk)
  all_goals (try simp only[sB] at *)
  all_goals first|contradiction|omega|exact jF ‹_›|exact jH ‹_›|exact jG ‹_›|exact⟨rfl,by omega⟩|exact rfl|(simp[*,-au];done)|skip
  exact⟨[],rfl,rfl,trivial,rfl,rfl,rfl,rfl⟩
 ·cases hx
def Zr {R:Type}:Prim R:=fun args hh=>match args,hh with
 |[.int .i64 a],[]=>aa ⟨True,.agg ⟨[.int .i64 a,.bool an,.int .i64 0,.int .i64 0,.bool an,.bool an,.int .i64 0,.int .i64 0]⟩,aj,hh,[],[]⟩
 |_,_=>aj
theorem aa8 {R:Type} {D:fR R}:b8 D Tryz.prog 66 (a9 Zr):=by
 refine fx Tryz.f66 fun args hh x hx=>?_
 unfold Zr at hx;split at hx
 ·rename_i a;cases hx;refine q4 fun _ hv=>?_
  generalize hG:cj (R:=R) _ _=G;refine oX (T:=[]) trivial mixed 200 (q:=let Z1:=bk ar;aY (G (bG (aP [Z1 a,.bool an,Z1 0,Z1 0,.bool an,.bool an,Z1 0,Z1 0])) [aa (dg (49,[Z1 a,.bool an,Z1 0,Z1 0,.bool an,.bool an,Z1 0,Z1 0]))])) ?_ (by kernel_rfl)
  intro Z1;subst Z1;subst hG
  repeat' (first|apply cZ|apply Vc.mk|apply fits.mk|intro h|apply aY.mk)
  all_goals (try simp only[sB] at *)
  all_goals first|contradiction|omega|exact jF ‹_›|exact jH ‹_›|exact jG ‹_›|exact⟨rfl,by omega⟩|exact rfl|(simp[*,-au];done)|skip
  exact⟨[],rfl,rfl,trivial,rfl,rfl,rfl,rfl⟩
 ·cases hx
def adJ {R:Type}:Prim R:=fun args hh=>match args,hh with
 |[.agg ⟨[.int .i64 x0,.int .i64 x1,.int .i64 x2,.int .i64 x3,.int .i64 x4,.int .i64 x5,.int .i64 x6,.int .i64 x7,.int .i64 x8,.int .i64 x9,.bool rS,.int .i64 rQ,.int .i64 rV,.bool rP,.int .i64 rU,.int .i64 rW]⟩],[]=>aa ⟨True,.bool (x6 != x7),aj,hh,[],[]⟩
 |_,_=>aj
theorem aiL {R:Type} {D:fR R}:b8 D Tryz.prog 230 (a9 adJ):=by
 refine fx Tryz.f230 fun args hh x hx=>?_
 unfold adJ at hx;split at hx
 ·rename_i x0 x1 x2 x3 x4 x5 x6 x7 x8 x9 rS rQ rV rP rU rW;cases hx;refine q4 fun _ hv=>?_
  generalize hG:cj (R:=R) _ _=G;refine oX (T:=[]) trivial mixed 200 (q:=let Z1:=bk ar;aY (G (aE (x6 != x7)) [aa (dg (53,[Z1 x0,Z1 x1,Z1 x2,Z1 x3,Z1 x4,Z1 x5,Z1 x6,Z1 x7,Z1 x8,Z1 x9,.bool rS,Z1 rQ,Z1 rV,.bool rP,Z1 rU,Z1 rW]))])) ?_ (by kernel_rfl)
  intro Z1;subst Z1;subst hG
  repeat' (first|apply cZ|apply Vc.mk|apply fits.mk|intro h|apply aY.mk)
  all_goals (try simp only[sB] at *)
  all_goals first|contradiction|omega|exact jF ‹_›|exact jH ‹_›|exact jG ‹_›|exact⟨rfl,by omega⟩|exact rfl|(simp[*,-au];done)|skip
  exact⟨[],rfl,rfl,trivial,rfl,rfl,rfl,rfl⟩
 ·cases hx
def TMo {R:Type}:eM R:=[(230,bJ zN 2 (a9 adJ)),(140,bJ zN 2 (a9 aaE))]
theorem aa5 {R:Type} {D:fR R}:cN D Tryz.prog (TMo:eM R):=⟨aT _ _ aiL,aT _ _ abe,trivial⟩
def Zm {R:Type}:Prim R:=fun args hh=>match args,hh with
 |[.agg ⟨[.int .i64 x0,.int .i64 x1,.int .i64 x2,.int .i64 x3,.int .i64 x4,.int .i64 x5,.int .i64 x6,.int .i64 x7,.int .i64 x8,.int .i64 x9,.bool rS,.int .i64 rQ,.int .i64 rV,.bool rP,.int .i64 rU,.int .i64 rW]⟩,.agg ⟨[.int .i64 y0,.int .i64 y1,.int .i64 y2,.int .i64 y3,.int .i64 y4,.int .i64 y5,.int .i64 y6,.int .i64 y7,.int .i64 y8,.int .i64 y9,.bool tz,.int .i64 tD,.int .i64 tA,.bool tC,.int .i64 tu,.int .i64 tx]⟩],[]=>aa ⟨True,.agg ⟨[.int .i64 (Ft (⟨⟨x0,x1,x2⟩,⟨x3,x4,x5⟩,x6,x7,⟨x8,x9⟩,rS,⟨rQ,rV⟩,rP,⟨rU,rW⟩⟩:Sw) (⟨⟨y0,y1,y2⟩,⟨y3,y4,y5⟩,y6,y7,⟨y8,y9⟩,tz,⟨tD,tA⟩,tC,⟨tu,tx⟩⟩:Sw)).k,.int .i64 (Ft (⟨⟨x0,x1,x2⟩,⟨x3,x4,x5⟩,x6,x7,⟨x8,x9⟩,rS,⟨rQ,rV⟩,rP,⟨rU,rW⟩⟩:Sw) (⟨⟨y0,y1,y2⟩,⟨y3,y4,y5⟩,y6,y7,⟨y8,y9⟩,tz,⟨tD,tA⟩,tC,⟨tu,tx⟩⟩:Sw)).i]⟩,aj,hh,[],[]⟩
 |_,_=>aj
theorem ahX {R:Type} {D:fR R}:b8 D Tryz.prog 231 (a9 Zm):=by
 refine fx Tryz.f231 fun args hh x hx=>?_
 unfold Zm at hx;split at hx
 ·rename_i x0 x1 x2 x3 x4 x5 x6 x7 x8 x9 rS rQ rV rP rU rW y0 y1 y2 y3 y4 y5 y6 y7 y8 y9 tz tD tA tC tu tx;cases hx;refine q4 fun _ hv=>?_
  generalize hG:cj (R:=R) _ _=G;refine oX (T:=TMo) aa5 mixed 200 (q:=let Z1:=bk ar;Vc True/\((!y6 != y7)=ao->aY (G (bG (aP [Z1 x8,Z1 x9])) [aa (dg (53,[Z1 x0,Z1 x1,Z1 x2,Z1 x3,Z1 x4,Z1 x5,Z1 x6,Z1 x7,Z1 x8,Z1 x9,.bool rS,Z1 rQ,Z1 rV,.bool rP,Z1 rU,Z1 rW])),aa (dg (53,[Z1 y0,Z1 y1,Z1 y2,Z1 y3,Z1 y4,Z1 y5,Z1 y6,Z1 y7,Z1 y8,Z1 y9,.bool tz,Z1 tD,Z1 tA,.bool tC,Z1 tu,Z1 tx])),aa (dg (31,[Z1 x8,Z1 x9]))]))/\((!y6 != y7)=an->Vc True/\((!x6 != x7)=an->Vc True/\(decide (kX (It.mk y8 y9) (It.mk x8 x9)>(0:Int))=ao->aY (G (bG (aP [Z1 y8,Z1 y9])) [aa (dg (53,[Z1 x0,Z1 x1,Z1 x2,Z1 x3,Z1 x4,Z1 x5,Z1 x6,Z1 x7,Z1 x8,Z1 x9,.bool rS,Z1 rQ,Z1 rV,.bool rP,Z1 rU,Z1 rW])),aa (dg (53,[Z1 y0,Z1 y1,Z1 y2,Z1 y3,Z1 y4,Z1 y5,Z1 y6,Z1 y7,Z1 y8,Z1 y9,.bool tz,Z1 tD,Z1 tA,.bool tC,Z1 tu,Z1 tx])),aa (dg (31,[Z1 y8,Z1 y9]))]))/\(decide (kX (It.mk y8 y9) (It.mk x8 x9)>(0:Int))=an->aY (G (bG (aP [Z1 x8,Z1 x9])) [aa (dg (53,[Z1 x0,Z1 x1,Z1 x2,Z1 x3,Z1 x4,Z1 x5,Z1 x6,Z1 x7,Z1 x8,Z1 x9,.bool rS,Z1 rQ,Z1 rV,.bool rP,Z1 rU,Z1 rW])),aa (dg (53,[Z1 y0,Z1 y1,Z1 y2,Z1 y3,Z1 y4,Z1 y5,Z1 y6,Z1 y7,Z1 y8,Z1 y9,.bool tz,Z1 tD,Z1 tA,.bool tC,Z1 tu,Z1 tx])),aa (dg (31,[Z1 x8,Z1 x9]))])))/\((!x6 != x7)=ao->aY (G (bG (aP [Z1 y8,Z1 y9])) [aa (dg (53,[Z1 x0,Z1 x1,Z1 x2,Z1 x3,Z1 x4,Z1 x5,Z1 x6,Z1 x7,Z1 x8,Z1 x9,.bool rS,Z1 rQ,Z1 rV,.bool rP,Z1 rU,Z1 rW])),aa (dg (53,[Z1 y0,Z1 y1,Z1 y2,Z1 y3,Z1 y4,Z1 y5,Z1 y6,Z1 y7,Z1 y8,Z1 y9,.bool tz,Z1 tD,Z1 tA,.bool tC,Z1 tu,Z1 tx])),aa (dg (31,[Z1 y8,Z1 y9]))])))) ?_ (by kernel_rfl)
  intro Z1;subst Z1;have fin:∀ (z:It) (hp:Hp R),z=Ft (⟨⟨x0,x1,x2⟩,⟨x3,x4,x5⟩,x6,x7,⟨x8,x9⟩,rS,⟨rQ,rV⟩,rP,⟨rU,rW⟩⟩:Sw) (⟨⟨y0,y1,y2⟩,⟨y3,y4,y5⟩,y6,y7,⟨y8,y9⟩,tz,⟨tD,tA⟩,tC,⟨tu,tx⟩⟩:Sw)->G (.agg ⟨[.int .i64 z.k,.int .i64 z.i]⟩) hp:=by
   intro z hp ht;subst ht;subst hG;exact⟨⟨[],rfl,rfl,trivial,rfl,rfl,rfl,rfl⟩⟩
  clear hG
  repeat' (first|apply cZ|apply Vc.mk|apply fits.mk|intro h|apply aY.mk)
  all_goals (try simp only[sB] at *)
  all_goals first|contradiction|omega|exact jF ‹_›|exact jH ‹_›|exact jG ‹_›|exact⟨rfl,by omega⟩|exact rfl|(simp[*,-au];done)|skip
  all_goals first
   |exact fin ⟨x8,x9⟩ _ (by simp only[Ft];rw[if_pos (by assumption)])
   |exact fin ⟨y8,y9⟩ _ (by simp only[Ft];rw[if_neg (by assumption),if_pos (by first|exact .inl (by assumption)|exact .inr ((xw _ _).1 (by assumption)))])
   |exact fin ⟨x8,x9⟩ _ (by simp only[Ft];rw[if_neg (by assumption),if_neg (by rintro (h|h);contradiction;have:=(xw ⟨y8,y9⟩ ⟨x8,x9⟩).2 h;omega)])
 ·cases hx
def Y_ {R:Type}:Prim R:=fun args hh=>match args,hh with
 |[.agg ⟨[.bool x0,.int .i64 x1,.int .i64 x2]⟩,.agg ⟨[.bool y0,.int .i64 y1,.int .i64 y2]⟩,.int .i64 sd],[]=>aa ⟨True,.agg ⟨[.bool (vH sd x0 ⟨x1,x2⟩ y0 ⟨y1,y2⟩).1,.int .i64 (vH sd x0 ⟨x1,x2⟩ y0 ⟨y1,y2⟩).2.k,.int .i64 (vH sd x0 ⟨x1,x2⟩ y0 ⟨y1,y2⟩).2.i]⟩,aj,hh,[],[]⟩
 |_,_=>aj
theorem ag1 {R:Type} {D:fR R}:b8 D Tryz.prog 232 (a9 Y_):=by
 refine fx Tryz.f232 fun args hh x hx=>?_
 unfold Y_ at hx;split at hx
 ·rename_i x0 x1 x2 y0 y1 y2 sd;cases hx;refine q4 fun _ hv=>?_
  generalize hG:cj (R:=R) _ _=G;refine oX (T:=TMo) aa5 mixed 200 (q:=let Z1:=bk ar;(y0=ao->((!x0)=an->Vc True/\((kX (It.mk y1 y2) (It.mk x1 x2)==sd)=ao->aY (G (bG (aP [.bool y0,Z1 y1,Z1 y2])) [aa (dg (47,[.bool x0,Z1 x1,Z1 x2])),aa (dg (47,[.bool y0,Z1 y1,Z1 y2])),aa (dg (47,[.bool y0,Z1 y1,Z1 y2]))]))/\((kX (It.mk y1 y2) (It.mk x1 x2)==sd)=an->((!x0)=ao->aY (G (bG (aP [.bool an,Z1 0,Z1 0])) [aa (dg (47,[.bool x0,Z1 x1,Z1 x2])),aa (dg (47,[.bool y0,Z1 y1,Z1 y2])),aa (dg (47,[.bool an,Z1 0,Z1 0]))]))/\((!x0)=an->aY (G (bG (aP [.bool x0,Z1 x1,Z1 x2])) [aa (dg (47,[.bool x0,Z1 x1,Z1 x2])),aa (dg (47,[.bool y0,Z1 y1,Z1 y2])),aa (dg (47,[.bool x0,Z1 x1,Z1 x2]))]))))/\((!x0)=ao->aY (G (bG (aP [.bool y0,Z1 y1,Z1 y2])) [aa (dg (47,[.bool x0,Z1 x1,Z1 x2])),aa (dg (47,[.bool y0,Z1 y1,Z1 y2])),aa (dg (47,[.bool y0,Z1 y1,Z1 y2]))])))/\(y0=an->((!x0)=ao->aY (G (bG (aP [.bool an,Z1 0,Z1 0])) [aa (dg (47,[.bool x0,Z1 x1,Z1 x2])),aa (dg (47,[.bool y0,Z1 y1,Z1 y2])),aa (dg (47,[.bool an,Z1 0,Z1 0]))]))/\((!x0)=an->aY (G (bG (aP [.bool x0,Z1 x1,Z1 x2])) [aa (dg (47,[.bool x0,Z1 x1,Z1 x2])),aa (dg (47,[.bool y0,Z1 y1,Z1 y2])),aa (dg (47,[.bool x0,Z1 x1,Z1 x2]))])))) ?_ (by kernel_rfl)
  intro Z1;subst Z1;have fin:∀ (z:Bool×It) (hp:Hp R),z=vH sd x0 ⟨x1,x2⟩ y0 ⟨y1,y2⟩->G (.agg ⟨[.bool z.1,.int .i64 z.2.k,.int .i64 z.2.i]⟩) hp:=by
   intro z hp ht;subst ht;subst hG;exact⟨⟨[],rfl,rfl,trivial,rfl,rfl,rfl,rfl⟩⟩
  clear hG
  repeat' (first|apply cZ|apply Vc.mk|apply fits.mk|intro h|apply aY.mk)
  all_goals (try simp only[sB] at *)
  all_goals first|contradiction|omega|exact jF ‹_›|exact jH ‹_›|exact jG ‹_›|exact⟨rfl,by omega⟩|exact rfl|(simp[*,-au];done)|skip
  all_goals first
   |(exfalso;simp_all;done)
   |exact fin (y0,⟨y1,y2⟩) _ (by simp[vH, *];done)
   |exact fin (an,⟨0,0⟩) _ (by simp[vH, *];done)
   |exact fin (x0,⟨x1,x2⟩) _ (by simp[vH, *];done)
 ·cases hx
def TPs {R:Type}:eM R:=[(1000000000,lW),(227,bJ zN 2 (a9 Ti.ef)),(231,bJ zN 2 (a9 Zm)),(232,bJ zN 2 (a9 Y_))]
theorem akr {R:Type} {D:fR R}:cN D Tryz.prog (TPs:eM R):=⟨iF,aT _ _ Ti.uX,aT _ _ ahX,aT _ _ ag1,trivial⟩
def VR {R:Type}:Prim R:=fun args hh=>match args,hh with
 |[.agg ⟨[.int .i64 x0,.int .i64 x1,.int .i64 x2,.int .i64 x3,.int .i64 x4,.int .i64 x5,.int .i64 x6,.int .i64 x7,.int .i64 x8,.int .i64 x9,.bool rS,.int .i64 rQ,.int .i64 rV,.bool rP,.int .i64 rU,.int .i64 rW]⟩,.agg ⟨[.int .i64 y0,.int .i64 y1,.int .i64 y2,.int .i64 y3,.int .i64 y4,.int .i64 y5,.int .i64 y6,.int .i64 y7,.int .i64 y8,.int .i64 y9,.bool tz,.int .i64 tD,.int .i64 tA,.bool tC,.int .i64 tu,.int .i64 tx]⟩],[]=>aa ⟨True,.agg ⟨[.int .i64 (O8.plus (⟨⟨x0,x1,x2⟩,⟨x3,x4,x5⟩,x6,x7,⟨x8,x9⟩,rS,⟨rQ,rV⟩,rP,⟨rU,rW⟩⟩:Sw) (⟨⟨y0,y1,y2⟩,⟨y3,y4,y5⟩,y6,y7,⟨y8,y9⟩,tz,⟨tD,tA⟩,tC,⟨tu,tx⟩⟩:Sw)).c.n,.int .i64 (O8.plus (⟨⟨x0,x1,x2⟩,⟨x3,x4,x5⟩,x6,x7,⟨x8,x9⟩,rS,⟨rQ,rV⟩,rP,⟨rU,rW⟩⟩:Sw) (⟨⟨y0,y1,y2⟩,⟨y3,y4,y5⟩,y6,y7,⟨y8,y9⟩,tz,⟨tD,tA⟩,tC,⟨tu,tx⟩⟩:Sw)).c.s,.int .i64 (O8.plus (⟨⟨x0,x1,x2⟩,⟨x3,x4,x5⟩,x6,x7,⟨x8,x9⟩,rS,⟨rQ,rV⟩,rP,⟨rU,rW⟩⟩:Sw) (⟨⟨y0,y1,y2⟩,⟨y3,y4,y5⟩,y6,y7,⟨y8,y9⟩,tz,⟨tD,tA⟩,tC,⟨tu,tx⟩⟩:Sw)).c.l,.int .i64 (O8.plus (⟨⟨x0,x1,x2⟩,⟨x3,x4,x5⟩,x6,x7,⟨x8,x9⟩,rS,⟨rQ,rV⟩,rP,⟨rU,rW⟩⟩:Sw) (⟨⟨y0,y1,y2⟩,⟨y3,y4,y5⟩,y6,y7,⟨y8,y9⟩,tz,⟨tD,tA⟩,tC,⟨tu,tx⟩⟩:Sw)).w.n,.int .i64 (O8.plus (⟨⟨x0,x1,x2⟩,⟨x3,x4,x5⟩,x6,x7,⟨x8,x9⟩,rS,⟨rQ,rV⟩,rP,⟨rU,rW⟩⟩:Sw) (⟨⟨y0,y1,y2⟩,⟨y3,y4,y5⟩,y6,y7,⟨y8,y9⟩,tz,⟨tD,tA⟩,tC,⟨tu,tx⟩⟩:Sw)).w.s,.int .i64 (O8.plus (⟨⟨x0,x1,x2⟩,⟨x3,x4,x5⟩,x6,x7,⟨x8,x9⟩,rS,⟨rQ,rV⟩,rP,⟨rU,rW⟩⟩:Sw) (⟨⟨y0,y1,y2⟩,⟨y3,y4,y5⟩,y6,y7,⟨y8,y9⟩,tz,⟨tD,tA⟩,tC,⟨tu,tx⟩⟩:Sw)).w.l,.int .i64 (O8.plus (⟨⟨x0,x1,x2⟩,⟨x3,x4,x5⟩,x6,x7,⟨x8,x9⟩,rS,⟨rQ,rV⟩,rP,⟨rU,rW⟩⟩:Sw) (⟨⟨y0,y1,y2⟩,⟨y3,y4,y5⟩,y6,y7,⟨y8,y9⟩,tz,⟨tD,tA⟩,tC,⟨tu,tx⟩⟩:Sw)).d,.int .i64 (O8.plus (⟨⟨x0,x1,x2⟩,⟨x3,x4,x5⟩,x6,x7,⟨x8,x9⟩,rS,⟨rQ,rV⟩,rP,⟨rU,rW⟩⟩:Sw) (⟨⟨y0,y1,y2⟩,⟨y3,y4,y5⟩,y6,y7,⟨y8,y9⟩,tz,⟨tD,tA⟩,tC,⟨tu,tx⟩⟩:Sw)).f,.int .i64 (O8.plus (⟨⟨x0,x1,x2⟩,⟨x3,x4,x5⟩,x6,x7,⟨x8,x9⟩,rS,⟨rQ,rV⟩,rP,⟨rU,rW⟩⟩:Sw) (⟨⟨y0,y1,y2⟩,⟨y3,y4,y5⟩,y6,y7,⟨y8,y9⟩,tz,⟨tD,tA⟩,tC,⟨tu,tx⟩⟩:Sw)).m.k,.int .i64 (O8.plus (⟨⟨x0,x1,x2⟩,⟨x3,x4,x5⟩,x6,x7,⟨x8,x9⟩,rS,⟨rQ,rV⟩,rP,⟨rU,rW⟩⟩:Sw) (⟨⟨y0,y1,y2⟩,⟨y3,y4,y5⟩,y6,y7,⟨y8,y9⟩,tz,⟨tD,tA⟩,tC,⟨tu,tx⟩⟩:Sw)).m.i,.bool (O8.plus (⟨⟨x0,x1,x2⟩,⟨x3,x4,x5⟩,x6,x7,⟨x8,x9⟩,rS,⟨rQ,rV⟩,rP,⟨rU,rW⟩⟩:Sw) (⟨⟨y0,y1,y2⟩,⟨y3,y4,y5⟩,y6,y7,⟨y8,y9⟩,tz,⟨tD,tA⟩,tC,⟨tu,tx⟩⟩:Sw)).gf,.int .i64 (O8.plus (⟨⟨x0,x1,x2⟩,⟨x3,x4,x5⟩,x6,x7,⟨x8,x9⟩,rS,⟨rQ,rV⟩,rP,⟨rU,rW⟩⟩:Sw) (⟨⟨y0,y1,y2⟩,⟨y3,y4,y5⟩,y6,y7,⟨y8,y9⟩,tz,⟨tD,tA⟩,tC,⟨tu,tx⟩⟩:Sw)).g.k,.int .i64 (O8.plus (⟨⟨x0,x1,x2⟩,⟨x3,x4,x5⟩,x6,x7,⟨x8,x9⟩,rS,⟨rQ,rV⟩,rP,⟨rU,rW⟩⟩:Sw) (⟨⟨y0,y1,y2⟩,⟨y3,y4,y5⟩,y6,y7,⟨y8,y9⟩,tz,⟨tD,tA⟩,tC,⟨tu,tx⟩⟩:Sw)).g.i,.bool (O8.plus (⟨⟨x0,x1,x2⟩,⟨x3,x4,x5⟩,x6,x7,⟨x8,x9⟩,rS,⟨rQ,rV⟩,rP,⟨rU,rW⟩⟩:Sw) (⟨⟨y0,y1,y2⟩,⟨y3,y4,y5⟩,y6,y7,⟨y8,y9⟩,tz,⟨tD,tA⟩,tC,⟨tu,tx⟩⟩:Sw)).lf,.int .i64 (O8.plus (⟨⟨x0,x1,x2⟩,⟨x3,x4,x5⟩,x6,x7,⟨x8,x9⟩,rS,⟨rQ,rV⟩,rP,⟨rU,rW⟩⟩:Sw) (⟨⟨y0,y1,y2⟩,⟨y3,y4,y5⟩,y6,y7,⟨y8,y9⟩,tz,⟨tD,tA⟩,tC,⟨tu,tx⟩⟩:Sw)).l.k,.int .i64 (O8.plus (⟨⟨x0,x1,x2⟩,⟨x3,x4,x5⟩,x6,x7,⟨x8,x9⟩,rS,⟨rQ,rV⟩,rP,⟨rU,rW⟩⟩:Sw) (⟨⟨y0,y1,y2⟩,⟨y3,y4,y5⟩,y6,y7,⟨y8,y9⟩,tz,⟨tD,tA⟩,tC,⟨tu,tx⟩⟩:Sw)).l.i]⟩,aj,hh,[],[]⟩
 |_,_=>aj
theorem ad4 {R:Type} {D:fR R}:b8 D Tryz.prog 229 (a9 VR):=by
 refine fx Tryz.f229 fun args hh x hx=>?_
 unfold VR at hx;split at hx
 ·rename_i x0 x1 x2 x3 x4 x5 x6 x7 x8 x9 rS rQ rV rP rU rW y0 y1 y2 y3 y4 y5 y6 y7 y8 y9 tz tD tA tC tu tx;cases hx;refine q4 fun _ hv=>?_
  generalize hG:cj (R:=R) _ _=G;refine oX (T:=TPs) akr mixed 200 (q:=let Z8:=bk ar;let Z1:=(QJ (ja x0 x1 x2) (ja y0 y1 y2));let Z2:=(QJ (ja x3 x4 x5) (ja y3 y4 y5));let Z3:=(Ft (Sw.mk (ja x0 x1 x2) (ja x3 x4 x5) x6 x7 (It.mk x8 x9) rS (It.mk rQ rV) rP (It.mk rU rW)) (Sw.mk (ja y0 y1 y2) (ja y3 y4 y5) y6 y7 (It.mk y8 y9) tz (It.mk tD tA) tC (It.mk tu tx)));let Z4:=(ay (vH (1:Int) rS (It.mk rQ rV) tz (It.mk tD tA)));let Z5:=(av (vH (1:Int) rS (It.mk rQ rV) tz (It.mk tD tA)));let Z6:=(ay (vH (-1:Int) rP (It.mk rU rW) tC (It.mk tu tx)));let Z7:=(av (vH (-1:Int) rP (It.mk rU rW) tC (It.mk tu tx)));Vc True/\Vc True/\Vc True/\Vc True/\Vc True/\Vc True/\Vc True/\aY (G (bG (aP [Z8 (pH Z1),Z8 (pI Z1),Z8 (pJ Z1),Z8 (pH Z2),Z8 (pI Z2),Z8 (pJ Z2),Z8 (ck ar (x6+y6)),Z8 (ck ar (x7+y7)),Z8 (It.k Z3),Z8 (It.i Z3),.bool Z4,Z8 (It.k Z5),Z8 (It.i Z5),.bool Z6,Z8 (It.k Z7),Z8 (It.i Z7)])) [aa (dg (53,[Z8 x0,Z8 x1,Z8 x2,Z8 x3,Z8 x4,Z8 x5,Z8 x6,Z8 x7,Z8 x8,Z8 x9,.bool rS,Z8 rQ,Z8 rV,.bool rP,Z8 rU,Z8 rW])),aa (dg (53,[Z8 y0,Z8 y1,Z8 y2,Z8 y3,Z8 y4,Z8 y5,Z8 y6,Z8 y7,Z8 y8,Z8 y9,.bool tz,Z8 tD,Z8 tA,.bool tC,Z8 tu,Z8 tx])),aa (dg (53,[Z8 (pH Z1),Z8 (pI Z1),Z8 (pJ Z1),Z8 (pH Z2),Z8 (pI Z2),Z8 (pJ Z2),Z8 (ck ar (x6+y6)),Z8 (ck ar (x7+y7)),Z8 (It.k Z3),Z8 (It.i Z3),.bool Z4,Z8 (It.k Z5),Z8 (It.i Z5),.bool Z6,Z8 (It.k Z7),Z8 (It.i Z7)]))])) ?_ (by kernel_rfl)
  intro Z8 Z1 Z2 Z3 Z4 Z5 Z6 Z7;subst Z7 Z6 Z5 Z4 Z3 Z2 Z1 Z8;subst hG
  repeat' (first|apply cZ|apply Vc.mk|apply fits.mk|intro h|apply aY.mk)
  all_goals (try simp only[sB] at *)
  all_goals first|contradiction|omega|exact jF ‹_›|exact jH ‹_›|exact jG ‹_›|exact⟨rfl,by omega⟩|exact rfl|(simp[*,-au];done)|skip
  exact⟨[],rfl,rfl,trivial,rfl,rfl,rfl,rfl⟩
 ·cases hx
end Wv
namespace G8
open Rx
set_option maxRecDepth 100000
abbrev dF (b:Nat) (i g:Int):Option (SB Rs):=aa (.inl (110,[.pointer (aa ⟨b,0,aj⟩),.int .i64 i,.int .i64 g]))
abbrev oP (m:Pl):Option (SB Rs):=aa (.inr (.inr (.inr (.db m))))
def U_ {R:Type}:eM R:=[(223,bJ zN 2 (a9 Wv.aaz))]
theorem RD {R:Type} {D:fR R}:cN D Tryz.prog (U_:eM R):=⟨aT _ _ Wv.agG,trivial⟩
def O6 {R:Type}:eM R:=[(1000000000,lW),(229,bJ zN 2 (a9 Wv.VR))]
theorem NT {R:Type} {D:fR R}:cN D Tryz.prog (O6:eM R):=⟨iF,aT _ _ Wv.ad4,trivial⟩
def AV {R:Type}:Prim R:=fun args hh=>match args,hh with
 |[.agg ⟨kE⟩],[]=>aa ⟨kE=dt (fY kE)/\(True),.agg ⟨bZ (n7 Wv.O8 (fY kE))⟩,aj,hh,[],[]⟩
 |_,_=>aj
theorem yI {R:Type} {D:fR R}:b8 D Tryz.prog 98 (a9 AV):=by
 refine fx Tryz.f98 fun args hh x hx=>?_
 unfold AV at hx;split at hx
 ·rename_i kE;cases hx;refine q4 fun _ hv=>?_
  obtain⟨j7,hv⟩:=hv;generalize fY kE=ke at *;subst j7
  generalize hG:cj (R:=R) _ _=G;refine cK (T:=U_) RD mixed 200 ?_;refine bM (q:=Vc True/\Vc True/\aY (G (bG (aP (bZ (mJ 1 (Jo Wv.O8 ke))))) [aa (.inl (49,(dt ke))),aa (.inl (134,(bZ (mJ 1 (Jo Wv.O8 ke)))))])) ?_ (by kernel_rfl)
  subst hG
  repeat' (first|apply cZ|apply Vc.mk|apply fits.mk|intro h|apply aY.mk)
  all_goals (try simp only[sB] at *)
  all_goals first|contradiction|omega|exact jF ‹_›|exact jH ‹_›|exact jG ‹_›|exact⟨rfl,by omega⟩|exact rfl|(simp[*,-au];done)|skip
  exact⟨[],rfl,rfl,trivial,rfl,rfl,rfl,rfl⟩
 ·cases hx
def ef {R:Type}:Prim R:=fun args hh=>match args,hh with
 |[.agg ⟨pP⟩,.agg ⟨qP⟩],[]=>aa ⟨pP=bZ (pv pP)/\qP=bZ (pv qP)/\(True),.agg ⟨bZ (eK Wv.O8 (pv pP) (pv qP))⟩,aj,hh,[],[]⟩
 |_,_=>aj
theorem uX {R:Type} {D:fR R}:b8 D Tryz.prog 148 (a9 ef):=by
 refine fx Tryz.f148 fun args hh x hx=>?_
 unfold ef at hx;split at hx
 ·rename_i pP qP;cases hx;refine q4 fun _ hv=>?_
  obtain⟨j7,sT,hv⟩:=hv;generalize pv pP=pp at *;subst j7;generalize pv qP=qp at *;subst sT
  generalize hG:cj (R:=R) _ _=G;refine cK (T:=O6) NT mixed 200 ?_;refine bM (q:=let Z1:=(bZ (mJ (ck ar (bP pp+bP qp)) (Gv.iX.plus Wv.O8 (bH pp) (bH qp))));((bP pp==(0:Int))=ao->aY (G (bG (aP (bZ qp))) [aa (.inl (134,(bZ pp))),aa (.inl (134,(bZ qp))),aa (.inl (134,(bZ qp)))]))/\((bP pp==(0:Int))=an->((bP qp==(0:Int))=ao->aY (G (bG (aP (bZ pp))) [aa (.inl (134,(bZ pp))),aa (.inl (134,(bZ qp))),aa (.inl (134,(bZ pp)))]))/\((bP qp==(0:Int))=an->Vc True/\Vc True/\Vc True/\aY (G (bG (aP Z1)) [aa (.inl (134,(bZ pp))),aa (.inl (134,(bZ qp))),aa (.inl (134,Z1))])))) ?_ (by kernel_rfl)
  intro Z1;subst Z1;have done:∀ (p:Ie Wv.Sw) (hp:Hp R),p=eK Wv.O8 pp qp->G (.agg ⟨bZ p⟩) hp:=by
   intro p hp e;subst e;subst hG;exact⟨⟨[],rfl,rfl,trivial,rfl,rfl,rfl,rfl⟩⟩
  clear hG
  repeat' (first|apply cZ|apply Vc.mk|apply fits.mk|intro h|apply aY.mk)
  all_goals (try simp only[sB] at *)
  all_goals first|contradiction|omega|exact jF ‹_›|exact jH ‹_›|exact jG ‹_›|exact⟨rfl,by omega⟩|exact rfl|(simp[*,-au];done)|skip
  ·have h:pp.n=0:=by assumption
   exact done qp _ (by rw[eK,if_pos h])
  ·have h:pp.n≠0:=by assumption
   have h2:qp.n=0:=by assumption
   exact done pp _ (by rw[eK,if_neg h,if_pos h2])
  ·have h:pp.n≠0:=by assumption
   have h2:qp.n≠0:=by assumption
   exact done ⟨Gv.W (pp.n+qp.n),Wv.O8.plus pp.sum qp.sum⟩ _ (by rw[eK,if_neg h,if_neg h2])
 ·cases hx
def Qs:eM Rs:=[(121,bJ zN 2 (a9 Ny))]
theorem Og:cN D Tryz.prog Qs:=⟨aT _ _ We,trivial⟩
def km:Prim Rs:=fun args hh=>match args,hh with
 |[.pointer (aa ⟨0,0,aj⟩),.agg ⟨[.int .i64 ri,.int .i64 rg]⟩],[aa (.inl (110,[.pointer (aa ⟨1,0,aj⟩),.int .i64 ti,.int .i64 tg])),aa (.inr (.inr (.inr (.db m))))]=>aa ⟨PP m,.agg ⟨bj (bu Wv.O8 m ⟨ri,rg⟩)⟩,aj,[aa (.inl (110,[.pointer (aa ⟨1,0,aj⟩),.int .i64 ti,.int .i64 tg])),aa (.inr (.inr (.inr (.db (aL m ⟨ri,rg⟩)))))],[],[(0,0)]⟩
 |_,_=>aj
theorem look_ok:b8 D Tryz.prog 80 (a9 km):=by
 refine fx Tryz.f80 fun args hh x hx=>?_
 unfold km at hx;split at hx
 ·rename_i ri rg ti tg m;cases hx;refine q4 fun _ hv=>?_
  generalize hG:cj (R:=Rs) _ _=G;refine cK (T:=Qs) Og mixed 200 ?_;refine bM (q:=Vc (PP m)/\aY (G (bG (aP (bj (j3 zd m (aO ri rg))))) [dF 1 ti tg,oP (aL m (aO ri rg)),aa (.inl (108,[.int ar ri,.int ar rg])),aa (.inl (136,(bj (j3 zd m (aO ri rg))))),aa (.inl (136,(bj (j3 zd m (aO ri rg)))))])) ?_ (by kernel_rfl)
  subst hG;exact⟨⟨hv⟩,⟨⟨[0,1],rfl,rfl,⟨.inl rfl,rfl,trivial⟩,rfl,rfl,rfl,rfl⟩⟩⟩
 ·cases hx
def WO:eM Rs:=[(1000000000,lW),(98,bJ zN 2 (a9 AV)),(148,bJ zN 2 (a9 ef)),(173,bJ zN 2 (a9 NA))]
theorem R3:cN D Tryz.prog WO:=⟨iF,aT _ _ yI,aT _ _ uX,aT _ _ V6,trivial⟩
def Bg:Prim Rs:=fun args hh=>match args,hh with
 |[.pointer (aa ⟨0,0,aj⟩),.agg ⟨[.int .i64 ri,.int .i64 rg]⟩,.agg ⟨xN⟩,.agg ⟨yN⟩,.agg ⟨zN⟩],[aa (.inl (110,[.pointer (aa ⟨1,0,aj⟩),.int .i64 ti,.int .i64 tg])),aa (.inr (.inr (.inr (.db m))))]=>aa ⟨xN=bj (gh xN)/\yN=bj (gh yN)/\zN=bj (gh zN)/\(PP m),.agg ⟨[.int .i64 ri,.int .i64 rg]⟩,aj,[aa (.inl (110,[.pointer (aa ⟨1,0,aj⟩),.int .i64 ti,.int .i64 tg])),aa (.inr (.inr (.inr (.db (Gv.sL Wv.O8 m ⟨ri,rg⟩ (gh xN) (gh yN) (gh zN))))))],[],[(0,0)]⟩
 |_,_=>aj
theorem yc:b8 D Tryz.prog 155 (a9 Bg):=by
 refine fx Tryz.f155 fun args hh x hx=>?_
 unfold Bg at hx;split at hx
 ·rename_i ri rg xN yN zN ti tg m;cases hx;refine q4 fun _ hv=>?_
  obtain⟨j7,sT,Gl,hv⟩:=hv;generalize gh xN=xn at *;subst j7;generalize gh yN=yn at *;subst sT;generalize gh zN=zn at *;subst Gl
  generalize hG:cj (R:=Rs) _ _=G;refine cK (T:=WO) R3 mixed 200 ?_;refine bM (q:=let Z3:=bk ar;let Z1:=(eK Wv.O8 (bw yn) (n7 Wv.O8 (b6 xn)));let Z2:=(fH (b6 xn) (Gv.Node.l xn) (Gv.Node.r xn) (eK Wv.O8 Z1 (bw zn)) (ck ar ((1:Int)+if cw zn>cw yn then cw zn else cw yn)));Vc True/\Vc ((dt (b6 xn))=dt (b6 xn)/\True)/\Vc ((bZ (bw yn))=bZ (bw yn)/\(bZ (n7 Wv.O8 (b6 xn)))=bZ (n7 Wv.O8 (b6 xn))/\True)/\Vc ((bZ Z1)=bZ Z1/\(bZ (bw zn))=bZ (bw zn)/\True)/\Vc ((bj Z2)=bj Z2/\PP m)/\aY (G (bG (aP [Z3 ri,Z3 rg])) [dF 1 ti tg,oP (tN m (aO ri rg) Z2),aa (.inl (108,[Z3 ri,Z3 rg])),aa (.inl (136,(bj Z2))),aa (.inl (136,(bj yn))),aa (.inl (136,(bj zn))),aa (.inl (108,[Z3 ri,Z3 rg]))])) ?_ (by kernel_rfl)
  intro Z3 Z1 Z2;subst Z2 Z1 Z3;subst hG
  repeat' (first|apply cZ|apply Vc.mk|apply fits.mk|intro h|apply aY.mk)
  all_goals (try simp only[sB] at *)
  all_goals first|contradiction|omega|exact jF ‹_›|exact jH ‹_›|exact jG ‹_›|exact⟨rfl,by omega⟩|exact rfl|(simp[*,-au];done)|skip
  all_goals first|assumption|exact⟨[0,1],rfl,rfl,⟨.inl rfl,rfl,trivial⟩,rfl,rfl,rfl,rfl⟩
 ·cases hx
end G8
end Go.Proofs.YtjlomlgdgpoepaaGreat
