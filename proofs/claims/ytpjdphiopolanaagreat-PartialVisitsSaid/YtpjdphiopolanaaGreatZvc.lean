import Derived.Test.YtpjdphiopolanaaGreatZvb
set_option linter.unusedVariables false
set_option linter.unusedSimpArgs false
namespace Go.Proofs.YtpjdphiopolanaaGreat
namespace Gv
open Rx
set_option linter.unusedSectionVars false
section
variable {N:Type}
structure Sam (m m':PM N):Prop where
 gens:m'.gens=m.gens
 live:m'.live=m.live
 free:m'.free=m.free
 held:m'.held=m.held
 cap:m'.cap=m.cap
 len:m'.vs.length=m.vs.length
theorem Sam.refl (m:PM N):Sam m m:=⟨rfl,rfl,rfl,rfl,rfl,rfl⟩
theorem Sam.trans {a b c:PM N} (h:Sam a b) (k:Sam b c):Sam a c:=⟨k.gens.trans h.gens,k.live.trans h.live,k.free.trans h.free,k.held.trans h.held,k.cap.trans h.cap,k.len.trans h.len⟩
theorem Sam.ok {n:Nat} {m m':PM N} (h:Sam m m'):POk n m'↔POk n m:=by
 constructor
 ·intro⟨h1,h2,h3,h3',h4,h5,h6,h6',h8⟩;exact⟨by rw[← h.gens,← h.len,h1],by rw[← h.live,← h.len,h2],by rw[← h.free,← h.len,← h.live];exact h3,by rw[← h.free];exact h3',by rw[← h.len];exact h4,by rw[← h.free];exact h5,by rw[← h.gens];exact h6,by rw[← h.gens,← h.live];exact h6',by rw[← h.held];exact h8⟩
 ·intro⟨h1,h2,h3,h3',h4,h5,h6,h6',h8⟩;exact⟨by rw[h.gens,h.len,h1],by rw[h.live,h.len,h2],by rw[h.free,h.len,h.live];exact h3,by rw[h.free];exact h3',by rw[h.len];exact h4,by rw[h.free];exact h5,by rw[h.gens];exact h6,by rw[h.gens,h.live];exact h6',by rw[h.held];exact h8⟩
theorem Sam.see (m:PM N) (r:Ref):Sam m (see m r):=by unfold Gv.see;split<;>exact⟨rfl,rfl,rfl,rfl,rfl,rfl⟩
theorem Sam.put1 (m:PM N) (r:Ref) (n:N):Sam m (put1 m r n):=by
 unfold Gv.put1;split
 ·exact⟨rfl,rfl,rfl,rfl,rfl,by simp⟩
 ·exact Sam.refl m
end
section
variable {E A:Type} (O:Ops E A)
theorem Sam.setN (m:Po E A) (r:Ref) (n l q:Node E A):Sam m (setN O m r n l q):=Sam.put1 _ _ _
theorem Sam.tie (m:Po E A) (r:Ref) (n:Node E A):Sam m (tie O m r n):=((Sam.see _ _).trans (Sam.see _ _)).trans (Sam.setN O _ _ _ _ _)
theorem Sam.turnL (m:Po E A) (r:Ref) (n:Node E A):Sam m (turnL O m r n):=((Sam.see _ _).trans (Sam.tie O _ _ _)).trans (Sam.tie O _ _ _)
theorem Sam.turnR (m:Po E A) (r:Ref) (n:Node E A):Sam m (turnR O m r n):=((Sam.see _ _).trans (Sam.tie O _ _ _)).trans (Sam.tie O _ _ _)
theorem Sam.see4 (m:PM (Node E A)) (a b c d:Ref):Sam m (Gv.see (Gv.see (Gv.see (Gv.see m a) b) c) d):=(((Sam.see _ _).trans (Sam.see _ _)).trans (Sam.see _ _)).trans (Sam.see _ _)
theorem Sam.level (m:Po E A) (r:Ref) (n:Node E A):Sam m (level O m r n).2:=by
 unfold Gv.level;split
 ·split
  ·exact((Sam.see4 _ _ _ _ _).trans (Sam.turnL O _ _ _)).trans (Sam.turnR O _ _ _)
  ·exact(Sam.see4 _ _ _ _ _).trans (Sam.turnR O _ _ _)
 ·split
  ·split
   ·exact((Sam.see4 _ _ _ _ _).trans (Sam.turnR O _ _ _)).trans (Sam.turnL O _ _ _)
   ·exact(Sam.see4 _ _ _ _ _).trans (Sam.turnL O _ _ _)
  ·exact((Sam.see _ _).trans (Sam.see _ _)).trans (Sam.setN O _ _ _ _ _)
theorem Sam.replace:∀ (k:Nat) (m:Po E A) (r:Ref) (e:E),Sam m (replace O k m r e).2
 |0,m,_,_=>Sam.refl m
 |k+1,m,r,e=>by
  unfold Gv.replace;split
  ·exact Sam.see _ _
  ·split
   ·split
    ·exact((Sam.see _ _).trans (Sam.replace k _ _ _)).trans (Sam.tie O _ _ _)
    ·exact(Sam.see _ _).trans (Sam.replace k _ _ _)
   ·split
    ·split
     ·exact((Sam.see _ _).trans (Sam.replace k _ _ _)).trans (Sam.tie O _ _ _)
     ·exact(Sam.see _ _).trans (Sam.replace k _ _ _)
    ·exact(Sam.see _ _).trans (Sam.tie O _ _ _)
theorem Sam.hang:∀ (k:Nat) (m:Po E A) (r f:Ref) (e:E),Sam m (hang O k m r f e).2
 |0,m,_,_,_=>Sam.refl m
 |k+1,m,r,f,e=>by
  unfold Gv.hang;split
  ·exact Sam.see _ _
  ·split
   ·exact((Sam.see _ _).trans (Sam.hang k _ _ _ _)).trans (Sam.level O _ _ _)
   ·exact((Sam.see _ _).trans (Sam.hang k _ _ _ _)).trans (Sam.level O _ _ _)
theorem Sam.link:∀ (k:Nat) (m:Po E A) (a b c:Ref),Sam m (link O k m a b c).2
 |0,m,_,_,_=>Sam.refl m
 |k+1,m,a,b,c=>by
  unfold Gv.link;split
  ·exact(((Sam.see _ _).trans (Sam.see _ _)).trans (Sam.link k _ _ _ _)).trans (Sam.level O _ _ _)
  ·split
   ·exact(((Sam.see _ _).trans (Sam.see _ _)).trans (Sam.link k _ _ _ _)).trans (Sam.level O _ _ _)
   ·exact(((Sam.see _ _).trans (Sam.see _ _)).trans (Sam.see _ _)).trans (Sam.setN O _ _ _ _ _)
theorem Sam.pickF:∀ (k:Nat) (m:Po E A) (r:Ref),Sam m (pickF O k m r).2.2
 |0,m,_=>Sam.refl m
 |k+1,m,r=>by
  unfold Gv.pickF;split
  ·exact Sam.see _ _
  ·exact((Sam.see _ _).trans (Sam.pickF k _ _)).trans (Sam.level O _ _ _)
theorem Sam.glue (k:Nat) (m:Po E A) (a c:Ref):Sam m (glue O k m a c).2:=by
 unfold Gv.glue;split
 ·exact Sam.refl m
 ·exact(Sam.pickF O _ _ _).trans (Sam.link O _ _ _ _ _)
theorem Sam.pick (K:Nat):∀ (k:Nat) (m:Po E A) (r:Ref) (e:E),Sam m (pick O K k m r e).2.2
 |0,m,_,_=>Sam.refl m
 |k+1,m,r,e=>by
  unfold Gv.pick;split
  ·exact Sam.see _ _
  ·split
   ·split
    ·exact(Sam.see _ _).trans (Sam.pick K k _ _ _)
    ·exact((Sam.see _ _).trans (Sam.pick K k _ _ _)).trans (Sam.level O _ _ _)
   ·split
    ·split
     ·exact(Sam.see _ _).trans (Sam.pick K k _ _ _)
     ·exact((Sam.see _ _).trans (Sam.pick K k _ _ _)).trans (Sam.level O _ _ _)
    ·exact(Sam.see _ _).trans (Sam.glue O _ _ _ _)
theorem Sam.cutF (K:Nat):∀ (k:Nat) (m:Po E A) (r:Ref) (e:E),Sam m (cutF O K k m r e).2.2
 |0,m,_,_=>Sam.refl m
 |k+1,m,r,e=>by
  unfold Gv.cutF;split
  ·exact Sam.see _ _
  ·split
   ·exact((Sam.see _ _).trans (Sam.cutF K k _ _ _)).trans (Sam.link O _ _ _ _ _)
   ·exact((Sam.see _ _).trans (Sam.cutF K k _ _ _)).trans (Sam.link O _ _ _ _ _)
theorem Sam.gather:∀ (k:Nat) (m:Po E A) (r:Ref),Sam m (gather O k m r).2
 |0,m,_=>Sam.refl m
 |k+1,m,r=>by
  unfold Gv.gather;split
  ·exact Sam.see _ _
  ·exact((Sam.see _ _).trans (Sam.gather k _ _)).trans (Sam.gather k _ _)
theorem Sam.between:∀ (k:Nat) (m:Po E A) (n:Node E A) (a b:Int),Sam m (between O k m n a b).2
 |0,m,_,_,_=>Sam.refl m
 |k+1,m,n,a,b=>by
  unfold Gv.between;split
  ·exact Sam.refl m
  ·split
   ·exact Sam.refl m
   ·dsimp only
    split
    ·exact(Sam.see _ _).trans (Sam.between k _ _ _ _)
    ·exact(((Sam.see _ _).trans (Sam.between k _ _ _ _)).trans (Sam.see _ _)).trans (Sam.between k _ _ _ _)
theorem Sam.first (may:A->A->Bool):∀ (k:Nat) (m:Po E A) (n:Node E A) (a:Part A) (f:Int),Sam m (first O may k m n a f).2
 |0,m,_,_,_=>Sam.refl m
 |k+1,m,n,a,f=>by
  unfold Gv.first
  split
  ·exact Sam.refl m
  ·split
   ·exact Sam.refl m
   ·split
    ·exact(Sam.see _ _).trans (Sam.first may k _ _ _ _)
    ·split
     ·exact(Sam.see _ _).trans (Sam.first may k _ _ _ _)
     ·exact(((Sam.see _ _).trans (Sam.first may k _ _ _ _)).trans (Sam.see _ _)).trans (Sam.first may k _ _ _ _)
theorem Sam.last (may:A->A->Bool):∀ (k:Nat) (m:Po E A) (n:Node E A) (a:Part A) (f:Int),Sam m (last O may k m n a f).2
 |0,m,_,_,_=>Sam.refl m
 |k+1,m,n,a,f=>by
  unfold Gv.last;split
  ·exact Sam.refl m
  ·split
   ·exact Sam.refl m
   ·dsimp only
    split
    ·exact((Sam.see _ _).trans (Sam.see _ _)).trans (Sam.last may k _ _ _ _)
    ·split
     ·exact((Sam.see _ _).trans (Sam.see _ _)).trans (Sam.last may k _ _ _ _)
     ·exact(((Sam.see _ _).trans (Sam.see _ _)).trans (Sam.last may k _ _ _ _)).trans (Sam.last may k _ _ _ _)
end
section
variable {N E A:Type} {O:Ops E A} {n:Nat}
theorem see_ok {m:PM N} {r:Ref}:POk n (see m r)↔POk n m:=(Sam.see _ _).ok
theorem put1_ok {m:PM N} {r:Ref} {v:N}:POk n (put1 m r v)↔POk n m:=(Sam.put1 _ _ _).ok
theorem setN_ok {m:Po E A} {r:Ref} {v l q:Node E A}:POk n (setN O m r v l q)↔POk n m:=(Sam.setN O _ _ _ _ _).ok
theorem tie_ok {m:Po E A} {r:Ref} {v:Node E A}:POk n (tie O m r v)↔POk n m:=(Sam.tie O _ _ _).ok
theorem turnL_ok {m:Po E A} {r:Ref} {v:Node E A}:POk n (turnL O m r v)↔POk n m:=(Sam.turnL O _ _ _).ok
theorem turnR_ok {m:Po E A} {r:Ref} {v:Node E A}:POk n (turnR O m r v)↔POk n m:=(Sam.turnR O _ _ _).ok
theorem level_ok {m:Po E A} {r:Ref} {v:Node E A}:POk n (level O m r v).2↔POk n m:=(Sam.level O _ _ _).ok
theorem replace_ok {k:Nat} {m:Po E A} {r:Ref} {e:E}:POk n (replace O k m r e).2↔POk n m:=(Sam.replace O _ _ _ _).ok
theorem hang_ok {k:Nat} {m:Po E A} {r f:Ref} {e:E}:POk n (hang O k m r f e).2↔POk n m:=(Sam.hang O _ _ _ _ _).ok
theorem link_ok {k:Nat} {m:Po E A} {a b c:Ref}:POk n (link O k m a b c).2↔POk n m:=(Sam.link O _ _ _ _ _).ok
theorem pickF_ok {k:Nat} {m:Po E A} {r:Ref}:POk n (pickF O k m r).2.2↔POk n m:=(Sam.pickF O _ _ _).ok
theorem glue_ok {k:Nat} {m:Po E A} {a c:Ref}:POk n (glue O k m a c).2↔POk n m:=(Sam.glue O _ _ _ _).ok
theorem pick_ok {K k:Nat} {m:Po E A} {r:Ref} {e:E}:POk n (pick O K k m r e).2.2↔POk n m:=(Sam.pick O K _ _ _ _).ok
theorem cutF_ok {K k:Nat} {m:Po E A} {r:Ref} {e:E}:POk n (cutF O K k m r e).2.2↔POk n m:=(Sam.cutF O K _ _ _ _).ok
theorem gather_ok {k:Nat} {m:Po E A} {r:Ref}:POk n (gather O k m r).2↔POk n m:=(Sam.gather O _ _ _).ok
theorem between_ok {k:Nat} {m:Po E A} {v:Node E A} {a b:Int}:POk n (between O k m v a b).2↔POk n m:=(Sam.between O _ _ _ _ _).ok
theorem first_ok {may:A->A->Bool} {k:Nat} {m:Po E A} {v:Node E A} {a:Part A} {f:Int}:POk n (first O may k m v a f).2↔POk n m:=(Sam.first O may _ _ _ _ _).ok
theorem last_ok {may:A->A->Bool} {k:Nat} {m:Po E A} {v:Node E A} {a:Part A} {f:Int}:POk n (last O may k m v a f).2↔POk n m:=(Sam.last O may _ _ _ _ _).ok
theorem ok_s:(∀ {N:Type} {n:Nat} {m:PM N} {r:Ref},POk n (see m r)↔POk n m)/\(∀ {N:Type} {n:Nat} {m:PM N} {r:Ref} {v:N},POk n (put1 m r v)↔POk n m)/\(∀ {E A:Type} {O:Ops E A} {n:Nat} {m:Po E A} {r:Ref} {v l q:Node E A},POk n (setN O m r v l q)↔POk n m)/\(∀ {E A:Type} {O:Ops E A} {n:Nat} {m:Po E A} {r:Ref} {v:Node E A},POk n (tie O m r v)↔POk n m)/\(∀ {E A:Type} {O:Ops E A} {n:Nat} {m:Po E A} {r:Ref} {v:Node E A},POk n (turnL O m r v)↔POk n m)/\(∀ {E A:Type} {O:Ops E A} {n:Nat} {m:Po E A} {r:Ref} {v:Node E A},POk n (turnR O m r v)↔POk n m)/\(∀ {E A:Type} {O:Ops E A} {n:Nat} {m:Po E A} {r:Ref} {v:Node E A},POk n (level O m r v).2↔POk n m)/\(∀ {E A:Type} {O:Ops E A} {n:Nat} {k:Nat} {m:Po E A} {r:Ref} {e:E},POk n (replace O k m r e).2↔POk n m)/\(∀ {E A:Type} {O:Ops E A} {n:Nat} {k:Nat} {m:Po E A} {r f:Ref} {e:E},POk n (hang O k m r f e).2↔POk n m)/\(∀ {E A:Type} {O:Ops E A} {n:Nat} {k:Nat} {m:Po E A} {a b c:Ref},POk n (link O k m a b c).2↔POk n m)/\(∀ {E A:Type} {O:Ops E A} {n:Nat} {k:Nat} {m:Po E A} {r:Ref},POk n (pickF O k m r).2.2↔POk n m)/\(∀ {E A:Type} {O:Ops E A} {n:Nat} {k:Nat} {m:Po E A} {a c:Ref},POk n (glue O k m a c).2↔POk n m)/\(∀ {E A:Type} {O:Ops E A} {n:Nat} {K k:Nat} {m:Po E A} {r:Ref} {e:E},POk n (pick O K k m r e).2.2↔POk n m)/\(∀ {E A:Type} {O:Ops E A} {n:Nat} {K k:Nat} {m:Po E A} {r:Ref} {e:E},POk n (cutF O K k m r e).2.2↔POk n m)/\(∀ {E A:Type} {O:Ops E A} {n:Nat} {k:Nat} {m:Po E A} {r:Ref},POk n (gather O k m r).2↔POk n m)/\(∀ {E A:Type} {O:Ops E A} {n:Nat} {k:Nat} {m:Po E A} {v:Node E A} {a b:Int},POk n (between O k m v a b).2↔POk n m)/\(∀ {E A:Type} {O:Ops E A} {n:Nat} {may:A->A->Bool} {k:Nat} {m:Po E A} {v:Node E A} {a:Part A} {f:Int},POk n (first O may k m v a f).2↔POk n m)/\(∀ {E A:Type} {O:Ops E A} {n:Nat} {may:A->A->Bool} {k:Nat} {m:Po E A} {v:Node E A} {a:Part A} {f:Int},POk n (last O may k m v a f).2↔POk n m):=⟨see_ok,put1_ok,setN_ok,tie_ok,turnL_ok,turnR_ok,level_ok,replace_ok,hang_ok,link_ok,pickF_ok,glue_ok,pick_ok,cutF_ok,gather_ok,between_ok,first_ok,last_ok⟩
@[simp] theorem lk_see (m:Po E A) (s r:Ref):lk O (see m s) r=lk O m r:=look_see _ _ _ _
theorem ref_eta (r:Ref):(⟨r.i,r.g⟩:Ref)=r:=rfl
theorem eq0 (i g:Int):(if false=true then !(i==0&&(g==0&&true)) else i==0&&(g==0&&true))=decide ((⟨i,g⟩:Ref)=r0):=by
 rw[if_neg (by simp)]
 by_cases h:(⟨i,g⟩:Ref)=r0
 ·rw[decide_eq_true h];cases h
  rfl
 ·rw[decide_eq_false h];cases hb:(i==0&&(g==0&&true)) with
  |false=>rfl
  |true =>
   simp only[Bool.and_eq_true,beq_iff_eq,and_true] at hb;obtain⟨rfl,rfl⟩:=hb;exact absurd rfl h
theorem Deep_see:∀ {k:Nat} {m:Po E A} {s r:Ref},Deep O k (see m s) r↔Deep O k m r
 |0,_,_,_=>Iff.rfl
 |k+1,m,s,r=>by simp only[Deep,lk_see,Deep_see]
theorem PickFD_see:∀ {k:Nat} {m:Po E A} {s r:Ref},PickFD O k (see m s) r↔PickFD O k m r
 |0,_,_,_=>Iff.rfl
 |k+1,m,s,r=>by simp only[PickFD,lk_see,PickFD_see]
theorem lk_gather:∀ (k:Nat) (m:Po E A) (r s:Ref),lk O (gather O k m r).2 s=lk O m s
 |0,m,_,_=>rfl
 |k+1,m,r,s=>by
  unfold Gv.gather;split
  ·exact lk_see _ _ _
  ·dsimp only
   rw[lk_gather k,lk_gather k,lk_see]
theorem lk_between:∀ (k:Nat) (m:Po E A) (n:Node E A) (a b:Int) (s:Ref),lk O (between O k m n a b).2 s=lk O m s
 |0,m,_,_,_,_=>rfl
 |k+1,m,n,a,b,s=>by
  rw[Gv.between];split
  ·rfl
  ·split
   ·rfl
   ·dsimp only
    split
    ·dsimp only
     rw[lk_between k,lk_see]
    ·dsimp only
     rw[lk_between k,lk_see,lk_between k,lk_see]
theorem lk_first (may:A->A->Bool):∀ (k:Nat) (m:Po E A) (n:Node E A) (a:Part A) (f:Int) (s:Ref),lk O (first O may k m n a f).2 s=lk O m s
 |0,m,_,_,_,_=>rfl
 |k+1,m,n,a,f,s=>by
  rw[Gv.first]
  split
  ·rfl
  ·split
   ·rfl
   ·split
    ·rw[lk_first may k,lk_see]
    ·split
     ·dsimp only
      rw[lk_first may k,lk_see]
     ·rw[lk_first may k,lk_see,lk_first may k,lk_see]
theorem lk_last (may:A->A->Bool):∀ (k:Nat) (m:Po E A) (n:Node E A) (a:Part A) (f:Int) (s:Ref),lk O (last O may k m n a f).2 s=lk O m s
 |0,m,_,_,_,_=>rfl
 |k+1,m,n,a,f,s=>by
  rw[Gv.last];split
  ·rfl
  ·split
   ·rfl
   ·dsimp only
    split
    ·rw[lk_last may k,lk_see,lk_see]
    ·split
     ·dsimp only
      rw[lk_last may k,lk_see,lk_see]
     ·rw[lk_last may k,lk_last may k,lk_see,lk_see]
theorem Deep_of:∀ {k:Nat} {m m':Po E A} {r:Ref},(∀ s,lk O m' s=lk O m s)->(Deep O k m' r↔Deep O k m r)
 |0,_,_,_,_=>Iff.rfl
 |k+1,m,m',r,h=>by simp only[Deep,h,Deep_of h]
theorem Deep_gather {k j:Nat} {m:Po E A} {q r:Ref}:Deep O k (gather O j m q).2 r↔Deep O k m r:=Deep_of (lk_gather j m q)
end
end Gv
namespace Gv
open Rx
set_option linter.unusedSectionVars false
inductive Tr (E:Type)
 |nil
 |node (r:Ref) (l:Tr E) (e:E) (q:Tr E)
namespace Tr
variable {E:Type}
def root:Tr E->Ref
 |nil=>r0
 |node r _ _ _=>r
def items:Tr E->List (Ref×E)
 |nil=>[]
 |node r l e q=>l.items++(r,e)::q.items
def h:Tr E->Nat
 |nil=>0
 |node _ l _ q=>1+max l.h q.h
def elems (t:Tr E):List E:=t.items.map Prod.snd
def refs (t:Tr E):List Ref:=t.items.map Prod.fst
def bal:Tr E->Prop
 |nil=>True
 |node _ l _ q=>l.bal/\q.bal/\l.h≤q.h+1/\q.h≤l.h+1
theorem h_le:∀ t:Tr E,t.h≤t.items.length
 |nil=>Nat.le_refl _
 |node r l e q=>by
  have h1:=h_le l;have h2:=h_le q;simp only[h,items,List.length_append,List.length_cons];omega
theorem elems_node (r:Ref) (l:Tr E) (e:E) (q:Tr E):(node r l e q).elems=l.elems++e::q.elems:=by simp[elems,items]
theorem refs_node (r:Ref) (l:Tr E) (e:E) (q:Tr E):(node r l e q).refs=l.refs++r::q.refs:=by simp[refs,items]
theorem elems_length (t:Tr E):t.elems.length=t.items.length:=by simp[elems]
theorem refs_length (t:Tr E):t.refs.length=t.items.length:=by simp[refs]
end Tr
structure Laws {E A:Type} (O:Ops E A) (S:List E->A) (good:List E->Prop):Prop where
 nil:S []=O.a0
 one:∀ e,S [e]=O.sum e
 plus:∀ x y,good (x++y)->x≠[]->y≠[]->O.plus (S x) (S y)=S (x++y)
 left:∀ x y,good (x++y)->good x
 right:∀ x y,good (x++y)->good y
 len:∀ x,good x->x.length≤1000000
 swap:∀ a b,O.cmp a b<0↔0<O.cmp b a
 trans:∀ a b c,O.cmp a b<0->O.cmp b c<0->O.cmp a c<0
 eqv:∀ a b c,O.cmp a b=0->O.cmp b c<0->O.cmp a c<0
 eqv':∀ a b c,O.cmp a b=0->O.cmp c b<0->O.cmp c a<0
section
variable {E A:Type} (O:Ops E A) (S:List E->A)
def nd (t:Tr E):Node E A :=
 match t with
 |.nil=>zn O
 |.node r l e q=>⟨e,l.root,q.root,⟨(Tr.node r l e q).items.length,S (Tr.node r l e q).elems⟩,(Tr.node r l e q).h⟩
def Rp (m:Po E A):Tr E->Prop
 |.nil=>True
 |.node r l e q=>has m r=true/\lk O m r=nd O S (.node r l e q)/\Rp m l/\Rp m q
variable {O S} {good:List E->Prop} (Z:Laws O S good)
theorem nd_node (r:Ref) (l:Tr E) (e:E) (q:Tr E):nd O S (.node r l e q)=⟨e,l.root,q.root,⟨(Tr.node r l e q).items.length,S (Tr.node r l e q).elems⟩,(Tr.node r l e q).h⟩:=rfl
theorem see2_upd (m:Po E A) (a b:Ref):Upd [] 2 (zn O) m (see (see m a) b):=(see_upd _ m a).to (see_upd _ _ b) (fun r hr=>by simp at hr) (Nat.le_refl _)
theorem see4_upd (m:Po E A) (a b c d:Ref):Upd [] 4 (zn O) m (see (see (see (see m a) b) c) d):=(see2_upd m a b).to (see2_upd _ c d) (fun r hr=>by simp at hr) (Nat.le_refl _)
theorem nd_h (t:Tr E):(nd O S t).h=(t.h:Int):=by cases t<;>rfl
theorem nd_all (hZ:S []=O.a0) (t:Tr E):(nd O S t).all=⟨t.items.length,S t.elems⟩:=by
 cases t with
 |nil=>simp[nd,zn,Tr.items,Tr.elems,hZ]
 |node r l e q=>rfl
theorem Rp.root {n:Nat} {m:Po E A} (ho:POk n m) {t:Tr E} (h:Rp O S m t):lk O m t.root=nd O S t:=by
 cases t with
 |nil =>
  show look (zn O) m r0=_
  unfold look;rw[ho.z0]
  rfl
 |node r l e q=>exact h.2.1
theorem Rp.frame {R:List Ref} {k:Nat} {m m':Po E A} (hu:Upd R k (zn O) m m'):∀ {t:Tr E},(∀ s,s∈t.refs->s∉R)->Rp O S m t->Rp O S m' t
 |.nil,_,_=>trivial
 |.node r l e q,hd,h=>by
  obtain⟨h1,h2,h3,h4⟩:=h;rw[Tr.refs_node] at hd;refine⟨by rw[hu.has];exact h1,?_,Rp.frame hu (fun s hs=>hd s (by simp[hs])) h3,Rp.frame hu (fun s hs=>hd s (by simp[hs])) h4⟩
  rw[← h2];exact hu.look r (hd r (by simp))
theorem Rp.see {m:Po E A} {t:Tr E} (s:Ref) (h:Rp O S m t):Rp O S (see m s) t:=Rp.frame (see_upd _ m s) (fun _ _ hs=>by cases hs) h
theorem Rp.has {m:Po E A}:∀ {t:Tr E},Rp O S m t->∀ s,s∈t.refs->has m s=true
 |.nil,_,s,hs=>by cases hs
 |.node r l e q,h,s,hs=>by
  obtain⟨h1,h2,h3,h4⟩:=h;rw[Tr.refs_node,List.mem_append,List.mem_cons] at hs;rcases hs with hs|rfl|hs
  ·exact Rp.has h3 s hs
  ·exact h1
  ·exact Rp.has h4 s hs
theorem root_ne {n:Nat} {m:Po E A} (ho:POk n m) {t:Tr E} (h:Rp O S m t) (hn:t≠.nil):t.root≠r0:=by
 cases t with
 |nil=>exact absurd rfl hn
 |node r l e q =>
  intro e0;have:=h.1;simp only[Tr.root] at e0;rw[e0,ho.z0] at this;cases this
include Z
theorem part_plus {x y:List E} (hg:good (x++y)):plusP O ⟨x.length,S x⟩ ⟨y.length,S y⟩=⟨(x++y).length,S (x++y)⟩:=by
 unfold plusP;cases x with
 |nil=>simp
 |cons a x =>
  cases y with
  |nil =>
   simp only[List.append_nil,List.length_nil];rw[if_neg (by simp;omega),if_pos (by rfl)]
  |cons b y =>
   have hl:=Z.len _ hg;simp only[List.length_append,List.length_cons] at hl;rw[if_neg (by simp;omega),if_neg (by simp;omega),Z.plus _ _ hg (by simp) (by simp),W_of (by simp only[List.length_cons];omega)]
   simp only[List.length_append,List.length_cons]
   congr 1
theorem one_part (e:E):one O e=⟨([e]:List E).length,S [e]⟩:=by rw[one,Z.one];rfl
theorem node_part {x y:List E} {e:E} (hg:good (x++e::y)):plusP O (plusP O ⟨x.length,S x⟩ (one O e)) ⟨y.length,S y⟩=⟨(x++e::y).length,S (x++e::y)⟩:=by
 have e1:x++e::y=(x++[e])++y:=by simp
 rw[e1] at hg ⊢;rw[one_part Z,part_plus Z (Z.left _ _ hg),part_plus Z hg]
theorem setN_tr {n:Nat} {m:Po E A} (ho:POk n m) {r:Ref} {l q:Tr E} {v:Node E A} (hl:Rp O S m l) (hq:Rp O S m q) (hr:has m r=true) (hnl:r∉l.refs) (hnq:r∉q.refs)
  (e1:v.l=l.root) (e2:v.r=q.root) (hg:good (l.elems++v.e::q.elems)) :
  Rp O S (setN O m r v (nd O S l) (nd O S q)) (.node r l v.e q)/\Upd [r] 1 (zn O) m (setN O m r v (nd O S l) (nd O S q)):=by
 have hu:=put1_upd (zn O) m r ⟨v.e,v.l,v.r,plusP O (plusP O (nd O S l).all (one O v.e)) (nd O S q).all,W (1+mx (nd O S l).h (nd O S q).h)⟩;refine⟨⟨by rw[setN,hu.has];exact hr,?_,Rp.frame hu (fun s hs=>by simp;rintro rfl;exact hnl hs) hl,Rp.frame hu (fun s hs=>by simp;rintro rfl;exact hnq hs) hq⟩,hu⟩
 show look (zn O) _ r=_
 rw[setN,look_put1 (zn O) _ hr];have hlen:=Z.len _ hg;have h1:=l.h_le;have h2:=q.h_le;simp only[List.length_append,List.length_cons,Tr.elems_length] at hlen;rw[nd_all Z.nil,nd_all Z.nil,nd_h,nd_h,← Tr.elems_length,← Tr.elems_length,node_part Z hg];simp only[nd,e1,e2,Tr.elems_node,Tr.items,Tr.h];have e3:W (1+mx (l.h:Int) (q.h:Int))=((1+max l.h q.h:Nat):Int):=by
  unfold mx;rw[W_of (by split<;>omega)]
  split<;>omega
 rw[e3];simp[Tr.elems]
theorem tie_tr {n:Nat} {m:Po E A} (ho:POk n m) {r:Ref} {l q:Tr E} {v:Node E A} (hl:Rp O S m l) (hq:Rp O S m q) (hr:has m r=true) (hnl:r∉l.refs) (hnq:r∉q.refs)
  (e1:v.l=l.root) (e2:v.r=q.root) (hg:good (l.elems++v.e::q.elems)) :
  Rp O S (tie O m r v) (.node r l v.e q)/\Upd [r] 3 (zn O) m (tie O m r v):=by
 unfold tie;have k1:lk O m v.l=nd O S l:=by rw[e1];exact hl.root ho
 have k2:lk O (see m v.l) v.r=nd O S q:=by rw[lk_see,e2];exact hq.root ho
 rw[k1,k2];obtain⟨p1,p2⟩:=setN_tr Z (m:=see (see m v.l) v.r) (see_ok.2 (see_ok.2 ho)) ((hl.see _).see _) ((hq.see _).see _) (by simpa using hr) hnl hnq e1 e2 hg
 exact⟨p1,(see2_upd m v.l v.r).to p2 (fun r hr=>by simpa using hr) (by omega)⟩
omit Z in
structure Is (O:Ops E A) (S:List E->A) (m:Po E A) (root:Ref) (its:List (Ref×E)) (t:Tr E):Prop where
 root:root=t.root
 rp:Rp O S m t
 its:t.items=its
 bal:t.bal
theorem turnL_tr {n:Nat} {m:Po E A} (ho:POk n m) {r u:Ref} {a b c:Tr E} {y:E} {v:Node E A} (ha:Rp O S m a) (hb:Rp O S m (.node u b y c)) (hr:has m r=true)
  (nod:(a.refs++r::(b.refs++u::c.refs)).Nodup) (e1:v.l=a.root) (e2:v.r=u) (hg:good (a.elems++v.e::(b.elems++y::c.elems))) :
  Rp O S (turnL O m r v) (.node u (.node r a v.e b) y c)/\Upd [r,u] 7 (zn O) m (turnL O m r v):=by
 obtain⟨b1,b2,b3,b4⟩:=hb;have k1:lk O m v.r=nd O S (.node u b y c):=by rw[e2];exact b2
 unfold turnL;rw[k1,e2];simp only[nd];simp only[List.nodup_append,List.nodup_cons,List.mem_append,List.mem_cons,not_or] at nod;have hg1:good (a.elems++v.e::b.elems):=Z.left _ (y::c.elems) (by simpa using hg)
 obtain⟨p1,p2⟩:=tie_tr Z (m:=see m u) (r:=r) (v:=⟨v.e,v.l,b.root,v.all,v.h⟩) (see_ok.2 ho) (ha.see _) (b3.see _) (by simpa using hr)
  (fun h=>nod.2.2 r h r (Or.inl rfl) rfl) (fun h=>nod.2.1.1.1 h) e1 rfl hg1
 have q1:=(see_upd (zn O) m u).to p2 (S:=[r]) (k:=4) (fun r hr=>by simpa using hr) (by omega)
 obtain⟨s1,s2⟩:=tie_tr Z (m:=tie O (see m u) r ⟨v.e,v.l,b.root,v.all,v.h⟩) (r:=u) (l:=.node r a v.e b) (q:=c) (v:=⟨y,r,c.root,⟨(Tr.node u b y c).items.length,S (Tr.node u b y c).elems⟩,(Tr.node u b y c).h⟩)
  (tie_ok.2 (see_ok.2 ho)) p1 (Rp.frame q1 (fun s hs=>by simp;rintro rfl;exact nod.2.1.1.2.2 hs) b4) (by rw[q1.has];exact b1)
  (by
   rw[Tr.refs_node];simp only[List.mem_append,List.mem_cons,not_or];exact⟨fun h=>nod.2.2 u h u (Or.inr (Or.inr (Or.inl rfl))) rfl,fun h=>nod.2.1.1.2.1 h.symm,fun h=>nod.2.1.2.2.2 u h u (Or.inl rfl) rfl⟩)
  (fun h=>nod.2.1.2.2.1.1 h) rfl rfl (by rw[Tr.elems_node];simpa using hg)
 exact⟨s1,q1.to s2 (fun s hs=>by simp at hs;rcases hs with rfl|rfl<;>simp) (by omega)⟩
theorem turnR_tr {n:Nat} {m:Po E A} (ho:POk n m) {r u:Ref} {a b c:Tr E} {y:E} {v:Node E A} (hb:Rp O S m (.node u a y b)) (hc:Rp O S m c) (hr:has m r=true)
  (nod:((a.refs++u::b.refs)++r::c.refs).Nodup) (e1:v.l=u) (e2:v.r=c.root) (hg:good ((a.elems++y::b.elems)++v.e::c.elems)) :
  Rp O S (turnR O m r v) (.node u a y (.node r b v.e c))/\Upd [r,u] 7 (zn O) m (turnR O m r v):=by
 obtain⟨b1,b2,b3,b4⟩:=hb;have k1:lk O m v.l=nd O S (.node u a y b):=by rw[e1];exact b2
 unfold turnR;rw[k1,e1];simp only[nd];simp only[List.nodup_append,List.nodup_cons,List.mem_append,List.mem_cons,not_or] at nod;have hg1:good (b.elems++v.e::c.elems):=Z.right (a.elems++[y]) _ (by simpa using hg)
 have nu:r≠u:=fun h=>nod.2.2 u (Or.inr (Or.inl rfl)) r (Or.inl rfl) h.symm
 obtain⟨p1,p2⟩:=tie_tr Z (m:=see m u) (r:=r) (v:=⟨v.e,b.root,v.r,v.all,v.h⟩) (see_ok.2 ho) (b4.see _) (hc.see _) (by simpa using hr)
  (fun h=>nod.2.2 r (Or.inr (Or.inr h)) r (Or.inl rfl) rfl) (fun h=>nod.2.1.1 h) rfl e2 hg1
 have q1:=(see_upd (zn O) m u).to p2 (S:=[r]) (k:=4) (fun r hr=>by simpa using hr) (by omega)
 obtain⟨s1,s2⟩:=tie_tr Z (m:=tie O (see m u) r ⟨v.e,b.root,v.r,v.all,v.h⟩) (r:=u) (l:=a) (q:=.node r b v.e c) (v:=⟨y,a.root,r,⟨(Tr.node u a y b).items.length,S (Tr.node u a y b).elems⟩,(Tr.node u a y b).h⟩)
  (tie_ok.2 (see_ok.2 ho)) (Rp.frame q1 (fun s hs=>by simp;rintro rfl;exact nod.2.2 s (Or.inl hs) s (Or.inl rfl) rfl) b3) p1 (by rw[q1.has];exact b1)
  (fun h=>nod.1.2.2 u h u (Or.inl rfl) rfl)
  (by
   rw[Tr.refs_node];simp only[List.mem_append,List.mem_cons,not_or];exact⟨fun h=>nod.1.2.1.1 h,fun h=>nu h.symm,fun h=>nod.2.2 u (Or.inr (Or.inl rfl)) u (Or.inr h) rfl⟩)
  rfl rfl (by simpa [Tr.elems_node] using hg)
 exact⟨s1,q1.to s2 (fun s hs=>by simp at hs;rcases hs with rfl|rfl<;>simp) (by omega)⟩
omit Z in
theorem Rp.see4 {m:Po E A} {t:Tr E} (a b c d:Ref) (h:Rp O S m t):Rp O S (Gv.see (Gv.see (Gv.see (Gv.see m a) b) c) d) t:=(((h.see _).see _).see _).see _
theorem level_tr {n:Nat} {m:Po E A} (ho:POk n m) {r:Ref} {l q:Tr E} {v:Node E A} (hl:Rp O S m l) (hq:Rp O S m q) (hr:has m r=true)
  (nod:(l.refs++r::q.refs).Nodup) (e1:v.l=l.root) (e2:v.r=q.root) (hg:good (l.elems++v.e::q.elems)) (bl:l.bal) (bq:q.bal) (d1:l.h≤q.h+2) (d2:q.h≤l.h+2) :
  ∃ t,Is O S (level O m r v).2 (level O m r v).1 (l.items++(r,v.e)::q.items) t/\max l.h q.h≤t.h/\t.h≤max l.h q.h+1/\(l.h≤q.h+1->q.h≤l.h+1->t.h=max l.h q.h+1) /\
   Upd (l.refs++r::q.refs) 20 (zn O) m (level O m r v).2:=by
 have k1:lk O m v.l=nd O S l:=by rw[e1];exact hl.root ho
 have k2:lk O m v.r=nd O S q:=by rw[e2];exact hq.root ho
 have hlen:=Z.len _ hg;have h1:=l.h_le;have h2:=q.h_le;simp only[List.length_append,List.length_cons,Tr.elems_length] at hlen;have w1:W ((q.h:Int)+1)=(q.h:Int)+1:=W_of (by omega)
 have w2:W ((l.h:Int)+1)=(l.h:Int)+1:=W_of (by omega)
 unfold level;simp only[lk_see,k1,k2,nd_h,w1,w2];have nodc:=nod;simp only[List.nodup_append,List.nodup_cons,List.mem_append,List.mem_cons,not_or] at nodc;split
 ·rename_i hgt;cases l with
  |nil=>simp only[Tr.h] at hgt;omega
  |node a ll x lr =>
   obtain⟨hl1,hl2,hl3,hl4⟩:=hl;obtain⟨bl1,bl2,bl3,bl4⟩:=bl;have k3:lk O m lr.root=nd O S lr:=hl4.root ho;have k4:lk O m ll.root=nd O S ll:=hl3.root ho;simp only[nd_node,k3,k4,nd_h,Tr.h] at hgt d1 ⊢;rw[Tr.refs_node] at nod;rw[Tr.elems_node] at hg;have hsee:=see4_upd (O:=O) m v.l v.r lr.root ll.root;have hos:POk n (see (see (see (see m v.l) v.r) lr.root) ll.root):=see_ok.2 (see_ok.2 (see_ok.2 (see_ok.2 ho)));split
   ·rename_i hin;cases lr with
    |nil=>simp only[Tr.h] at hin;omega
    |node b p y c =>
     obtain⟨hr1,hr2,hr3,hr4⟩:=hl4;obtain⟨br1,br2,br3,br4⟩:=bl2;simp only[Tr.h] at hin hgt d1 bl3 bl4 ⊢;rw[Tr.refs_node] at nod;rw[Tr.elems_node] at hg;have nod1:(ll.refs++a::(p.refs++b::c.refs)).Nodup:=(List.nodup_append.1 nod).1;obtain⟨p1,p2⟩:=turnL_tr Z hos (r:=a) (u:=b) (a:=ll) (b:=p) (c:=c) (y:=y) (v:=⟨x,ll.root,b,⟨(Tr.node a ll x (.node b p y c)).items.length,S (Tr.node a ll x (.node b p y c)).elems⟩,((Tr.node a ll x (.node b p y c)).h:Nat)⟩)
      (Rp.see4 _ _ _ _ hl3) (Rp.see4 _ _ _ _ ⟨hr1,hr2,hr3,hr4⟩) (by simpa using hl1) nod1 rfl rfl (Z.left _ _ hg)
     have q1:=hsee.to p2 (S:=[a,b]) (k:=11) (fun s hs=>by simpa using hs) (by omega)
     have nod2:(((ll.refs++a::p.refs)++b::c.refs)++r::q.refs).Nodup:=by simpa using nod
     have dq:∀ s,s∈q.refs->s∉[a,b]:=fun s hs hab=>by
      have:=(List.nodup_append.1 nod).2.2 s (by simp at hab;rcases hab with rfl|rfl<;>simp) s (by simp[hs])
      exact this rfl
     obtain⟨s1,s2⟩:=turnR_tr Z (turnL_ok.2 hos) (r:=r) (u:=b) (a:=.node a ll x p) (b:=c) (c:=q) (y:=y) (v:=⟨v.e,b,v.r,v.all,v.h⟩) p1 (Rp.frame q1 dq hq) (by rw[q1.has];exact hr)
      (by rw[Tr.refs_node];exact nod2) rfl e2 (by rw[Tr.elems_node];simpa using hg)
     rw[e1] at *
     refine⟨.node b (.node a ll x p) y (.node r c v.e q),⟨rfl,s1,by simp[Tr.items],?_⟩,?_,?_,?_,(q1.to s2 (fun s hs=>by simp at hs;rw[Tr.refs_node,Tr.refs_node];rcases hs with(rfl|rfl)|rfl|rfl<;>simp) (by omega))⟩
     ·simp only[Tr.bal,Tr.h];refine⟨⟨bl1,br1,by omega,by omega⟩,⟨br2,bq,by omega,by omega⟩,by omega,by omega⟩
     ·simp only[Tr.h];omega
     ·simp only[Tr.h];omega
     ·intro _ _;omega
   ·rename_i hin;obtain⟨s1,s2⟩:=turnR_tr Z hos (r:=r) (u:=a) (a:=ll) (b:=lr) (c:=q) (y:=x) (v:=v) (Rp.see4 _ _ _ _ ⟨hl1,hl2,hl3,hl4⟩) (Rp.see4 _ _ _ _ hq) (by simpa using hr)
     nod e1 e2 hg
    rw[e1] at *
    refine⟨.node a ll x (.node r lr v.e q),⟨rfl,s1,by simp[Tr.items],?_⟩,?_,?_,?_,(hsee.to s2 (fun s hs=>by simp at hs;rw[Tr.refs_node];rcases hs with rfl|rfl<;>simp) (by omega))⟩
    ·simp only[Tr.bal,Tr.h];refine⟨bl1,⟨bl2,bq,by omega,by omega⟩,by omega,by omega⟩
    ·simp only[Tr.h];omega
    ·simp only[Tr.h];omega
    ·intro _ _;omega
 ·split
  ·rename_i hngt hgt;cases q with
   |nil=>simp only[Tr.h] at hgt;omega
   |node a ql x qr =>
    obtain⟨hq1,hq2,hq3,hq4⟩:=hq;obtain⟨bq1,bq2,bq3,bq4⟩:=bq;have k3:lk O m ql.root=nd O S ql:=hq3.root ho;have k4:lk O m qr.root=nd O S qr:=hq4.root ho;simp only[nd_node,k3,k4,nd_h,Tr.h] at hgt d2 ⊢;rw[Tr.refs_node] at nod;rw[Tr.elems_node] at hg;have hsee:=see4_upd (O:=O) m v.l v.r ql.root qr.root;have hos:POk n (see (see (see (see m v.l) v.r) ql.root) qr.root):=see_ok.2 (see_ok.2 (see_ok.2 (see_ok.2 ho)));split
    ·rename_i hin;cases ql with
     |nil=>simp only[Tr.h] at hin;omega
     |node b p y c =>
      obtain⟨hr1,hr2,hr3,hr4⟩:=hq3;obtain⟨br1,br2,br3,br4⟩:=bq1;simp only[Tr.h] at hin hgt d2 bq3 bq4 ⊢;rw[Tr.refs_node] at nod;rw[Tr.elems_node] at hg;have nod1:((p.refs++b::c.refs)++a::qr.refs).Nodup:=(List.nodup_cons.1 (List.nodup_append.1 nod).2.1).2;have hg1:good ((p.elems++y::c.elems)++x::qr.elems):=Z.right (l.elems++[v.e]) _ (by simpa using hg)
      obtain⟨p1,p2⟩:=turnR_tr Z hos (r:=a) (u:=b) (a:=p) (b:=c) (c:=qr) (y:=y) (v:=⟨x,b,qr.root,⟨(Tr.node a (.node b p y c) x qr).items.length,S (Tr.node a (.node b p y c) x qr).elems⟩,((Tr.node a (.node b p y c) x qr).h:Nat)⟩)
       (Rp.see4 _ _ _ _ ⟨hr1,hr2,hr3,hr4⟩) (Rp.see4 _ _ _ _ hq4) (by simpa using hq1) nod1 rfl rfl hg1
      have q1:=hsee.to p2 (S:=[a,b]) (k:=11) (fun s hs=>by simpa using hs) (by omega)
      have dl:∀ s,s∈l.refs->s∉[a,b]:=fun s hs hab=>by
       have:=(List.nodup_append.1 nod).2.2 s hs s (by simp at hab;rcases hab with rfl|rfl<;>simp)
       exact this rfl
      obtain⟨s1,s2⟩:=turnL_tr Z (turnR_ok.2 hos) (r:=r) (u:=b) (a:=l) (b:=p) (c:=.node a c x qr) (y:=y) (v:=⟨v.e,v.l,b,v.all,v.h⟩) (Rp.frame q1 dl hl) p1 (by rw[q1.has];exact hr)
       (by rw[Tr.refs_node];simpa using nod) e1 rfl (by rw[Tr.elems_node];simpa using hg)
      rw[e2] at *
      refine⟨.node b (.node r l v.e p) y (.node a c x qr),⟨rfl,s1,by simp[Tr.items],?_⟩,?_,?_,?_,(q1.to s2 (fun s hs=>by simp at hs;rw[Tr.refs_node,Tr.refs_node];rcases hs with(rfl|rfl)|rfl|rfl<;>simp) (by omega))⟩
      ·simp only[Tr.bal,Tr.h];refine⟨⟨bl,br1,by omega,by omega⟩,⟨br2,bq2,by omega,by omega⟩,by omega,by omega⟩
      ·simp only[Tr.h];omega
      ·simp only[Tr.h];omega
      ·intro _ _;omega
    ·rename_i hin;obtain⟨s1,s2⟩:=turnL_tr Z hos (r:=r) (u:=a) (a:=l) (b:=ql) (c:=qr) (y:=x) (v:=v) (Rp.see4 _ _ _ _ hl) (Rp.see4 _ _ _ _ ⟨hq1,hq2,hq3,hq4⟩) (by simpa using hr)
      nod e1 e2 hg
     rw[e2] at *
     refine⟨.node a (.node r l v.e ql) x qr,⟨rfl,s1,by simp[Tr.items],?_⟩,?_,?_,?_,(hsee.to s2 (fun s hs=>by simp at hs;rw[Tr.refs_node];rcases hs with rfl|rfl<;>simp) (by omega))⟩
     ·simp only[Tr.bal,Tr.h];refine⟨⟨bl,bq1,by omega,by omega⟩,bq2,by omega,by omega⟩
     ·simp only[Tr.h];omega
     ·simp only[Tr.h];omega
     ·intro _ _;omega
  ·rename_i hn1 hn2;obtain⟨s1,s2⟩:=setN_tr Z (m:=see (see m v.l) v.r) (see_ok.2 (see_ok.2 ho)) ((hl.see _).see _) ((hq.see _).see _) (by simpa using hr) (fun h=>nodc.2.2 r h r (Or.inl rfl) rfl) (fun h=>nodc.2.1.1 h) e1 e2 hg
   refine⟨.node r l v.e q,⟨rfl,s1,rfl,⟨bl,bq,by omega,by omega⟩⟩,?_,?_,?_,(see2_upd m v.l v.r).to s2 (fun s hs=>by simp at hs;subst hs;simp) (by omega)⟩
   ·simp only[Tr.h];omega
   ·simp only[Tr.h];omega
   ·intro _ _;simp only[Tr.h];omega
end
end Gv
namespace Wv
open Rx
structure Mk where
 t:Int
 ins:Bool
 it:It
 here:Bool
 tf:Bool
 tk:It
structure Sw where
 c:Ti.Td
 w:Ti.Td
 d:Int
 f:Int
 m:It
 gf:Bool
 g:It
 lf:Bool
 l:It
def mz:Mk:=⟨0,false,⟨0,0⟩,false,false,⟨0,0⟩⟩
def sz:Sw:=⟨⟨0,0,0⟩,⟨0,0,0⟩,0,0,⟨0,0⟩,false,⟨0,0⟩,false,⟨0,0⟩⟩
def insS (x:It) (here:Bool):Sw:=if here=true then⟨⟨1,1,1⟩,⟨1,0,0⟩,0,0,⟨0,0⟩,false,⟨0,0⟩,true,x⟩ else⟨⟨1,1,1⟩,⟨1,1,1⟩,0,0,⟨0,0⟩,true,x,false,⟨0,0⟩⟩
def delS (tf:Bool) (tk:It):Sw:=if tf=true then⟨⟨1,-1,-1⟩,⟨1,-1,-1⟩,1,0,tk,false,⟨0,0⟩,false,⟨0,0⟩⟩ else⟨⟨1,-1,-1⟩,⟨1,-1,-1⟩,1,1,⟨0,0⟩,false,⟨0,0⟩,false,⟨0,0⟩⟩
def Mk.sum (m:Mk):Sw:=if m.ins=true then insS m.it m.here else delS m.tf m.tk
def bigS (s o:Sw):It:=if o.d=o.f then s.m else if s.d=s.f∨ah s.m o.m then o.m else s.m
def outI (side:Int) (af:Bool) (a:It) (bf:Bool) (b:It):Bool×It:=if bf=true/\(¬ af=true∨icmp b a=side) then(bf,b) else if ¬ af=true then(false,⟨0,0⟩) else(af,a)
def Sw.plus (s o:Sw):Sw:=⟨s.c.plus o.c,s.w.plus o.w,Ti.w64 (s.d+o.d),Ti.w64 (s.f+o.f),bigS s o,(outI 1 s.gf s.g o.gf o.g).1,(outI 1 s.gf s.g o.gf o.g).2,(outI (-1) s.lf s.l o.lf o.l).1,(outI (-1) s.lf s.l o.lf o.l).2⟩
def O8:Gv.Ops Mk Sw:=⟨mz,sz,fun a b=>c64 a.t b.t,Mk.sum,Sw.plus⟩
def cnt (m:Mk):Int:=if m.ins=true then 1 else -1
def wgt (m:Mk):Int:=if m.ins=true/\m.here=true then 0 else cnt m
def dels (l:List Mk):List Mk:=l.filter fun m=>!m.ins
def frees (l:List Mk):List Mk:=l.filter fun m=>!m.ins && !m.tf
def took (l:List Mk):List It:=(l.filter fun m=>!m.ins&&m.tf).map Mk.tk
def itms (h:Bool) (l:List Mk):List It:=(l.filter fun m=>m.ins&&(m.here==h)).map Mk.it
def S8 (l:List Mk):Sw:=⟨Ti.tideOf (l.map cnt),Ti.tideOf (l.map wgt),(dels l).length,(frees l).length,(hi (took l)).getD iz,(hi (itms false l)).isSome,(hi (itms false l)).getD iz,(lo (itms true l)).isSome,(lo (itms true l)).getD iz⟩
def good8 (l:List Mk):Prop:=l.length≤60
theorem cnt_b (m:Mk):-1≤cnt m/\cnt m≤1:=by unfold cnt;split<;>omega
theorem wgt_b (m:Mk):-1≤wgt m/\wgt m≤1:=by unfold wgt;split;omega;exact cnt_b m
theorem small_map {l:List Mk} {f:Mk->Int} (hf:∀ m,-1≤f m/\f m≤1) (h:l.length≤60):Ti.Small (l.map f):=by
 have hb:∀ i,i<(l.map f).length->-1≤(l.map f).getD i 0/\(l.map f).getD i 0≤1:=fun i hi=>by
  have hi':i<l.length:=by simpa using hi
  rw[List.getD_eq_getElem?_getD,List.getElem?_map,List.getElem?_eq_getElem hi'];exact hf _
 refine⟨by simpa using h,fun i hi=>?_,fun i hi=>?_⟩
 ·have:=hb i hi;omega
 ·have:=hb i hi;omega
theorem out_up (a b:Option It):outI 1 a.isSome (a.getD iz) b.isSome (b.getD iz)=((up a b).isSome,(up a b).getD iz):=by
 unfold outI;simp only[icmp_one];cases a with
 |none=>cases b<;>simp[up]
 |some a =>
  cases b with
  |none=>simp[up]
  |some b=>simp only[Option.isSome_some,Option.getD_some,up];by_cases h:ah a b<;>simp[h]
theorem out_dn (a b:Option It):outI (-1) a.isSome (a.getD iz) b.isSome (b.getD iz)=((dn a b).isSome,(dn a b).getD iz):=by
 unfold outI;simp only[icmp_neg];cases a with
 |none=>cases b<;>simp[dn]
 |some a =>
  cases b with
  |none=>simp[dn]
  |some b=>simp only[Option.isSome_some,Option.getD_some,dn];by_cases h:ah b a<;>simp[h]
theorem dels_len (l:List Mk):(dels l).length=(frees l).length+(took l).length:=by
 unfold dels frees took;rw[List.length_map]
 induction l with
 |nil=>rfl
 |cons m l ih =>
  simp only[List.filter_cons];cases m.ins<;>cases m.tf<;>simp at *<;>omega
theorem took_none (l:List Mk):((dels l).length:Int)=(frees l).length↔hi (took l)=none:=by
 rw[dels_len];have h:=hi_none (took l)
 constructor
 ·intro h1;have:took l=[]:=List.eq_nil_of_length_eq_zero (by omega)
  rw[this];rfl
 ·intro h1;rw[h1] at h;have:took l=[]:=by
   by_cases c:took l=[]
   ·exact c
   ·have:=h.2 c;cases this
  rw[this];simp
theorem big_up {x y:List Mk}:bigS (S8 x) (S8 y)=(up (hi (took x)) (hi (took y))).getD iz:=by
 have hx:=took_none x;have hy:=took_none y;unfold bigS S8;simp only[hx,hy];cases hi (took x) with
 |none=>cases hi (took y)<;>simp[up]
 |some a =>
  cases hi (took y) with
  |none=>simp[up]
  |some b=>by_cases h:ah a b<;>simp[up,h]
theorem S8_one (m:Mk):S8 [m]=m.sum:=by
 unfold S8 Mk.sum insS delS dels frees took itms;obtain⟨t,ins,it,here,tf,tk⟩:=m;cases ins<;>cases here<;>cases tf<;>rfl
theorem S8_plus (x y:List Mk) (h:good8 (x++y)):(S8 x).plus (S8 y)=S8 (x++y):=by
 have hl:=h;unfold good8 at hl;have h1:(Ti.tideOf (x.map cnt)).plus (Ti.tideOf (y.map cnt))=Ti.tideOf ((x++y).map cnt):=by
  rw[List.map_append];exact Ti.plus_tide (by rw[← List.map_append];exact small_map cnt_b hl)
 have h2:(Ti.tideOf (x.map wgt)).plus (Ti.tideOf (y.map wgt))=Ti.tideOf ((x++y).map wgt):=by
  rw[List.map_append];exact Ti.plus_tide (by rw[← List.map_append];exact small_map wgt_b hl)
 have e1:dels (x++y)=dels x++dels y:=List.filter_append ..;have e2:frees (x++y)=frees x++frees y:=List.filter_append ..;have e3:took (x++y)=took x++took y:=by unfold took;rw[List.filter_append,List.map_append]
 have e4:∀ b,itms b (x++y)=itms b x++itms b y:=fun b=>by unfold itms;rw[List.filter_append,List.map_append]
 have l1:(dels x).length+(dels y).length≤60:=by
  have:=List.length_filter_le (fun m:Mk=>!m.ins) (x++y)
  rw[← List.length_append,← e1];exact Nat.le_trans this hl
 have l2:(frees x).length+(frees y).length≤60:=by
  have:=List.length_filter_le (fun m:Mk=>!m.ins && !m.tf) (x++y)
  rw[← List.length_append,← e2];exact Nat.le_trans this hl
 have h3:Ti.w64 (((dels x).length:Int)+((dels y).length:Int))=((dels (x++y)).length:Int):=by
  rw[e1,List.length_append,Ti.w64_of (by omega)];push_cast;rfl
 have h4:Ti.w64 (((frees x).length:Int)+((frees y).length:Int))=((frees (x++y)).length:Int):=by
  rw[e2,List.length_append,Ti.w64_of (by omega)];push_cast;rfl
 have h5:bigS (S8 x) (S8 y)=(hi (took (x++y))).getD iz:=by rw[big_up,e3,hi_append]
 have h6:=out_up (hi (itms false x)) (hi (itms false y));have h7:=out_dn (lo (itms true x)) (lo (itms true y));rw[← hi_append,← e4] at h6;rw[← lo_append,← e4] at h7;unfold Sw.plus;rw[h5];unfold S8;simp only;rw[h1,h2,h3,h4,h6,h7]
theorem cmp_neg (e x:Mk):O8.cmp e x<0↔e.t<x.t:=by simp only[O8,c64];split<;>(try split)<;>omega
theorem cmp_zero (e x:Mk):O8.cmp e x=0↔e.t=x.t:=by simp only[O8,c64];split<;>(try split)<;>omega
theorem cmp_pos (e x:Mk):(0<O8.cmp e x)↔x.t<e.t:=by simp only[O8,c64];split<;>(try split)<;>omega
theorem laws8:Gv.Laws O8 S8 good8 where
 nil:=rfl
 one e:=S8_one e
 plus x y h _ _:=S8_plus x y h
 left x y h:=by unfold good8 at *;rw[List.length_append] at h;omega
 right x y h:=by unfold good8 at *;rw[List.length_append] at h;omega
 len x h:=by unfold good8 at h;omega
 swap a b:=by rw[cmp_neg,cmp_pos]
 trans a b c:=by simp only[cmp_neg];omega
 eqv a b c:=by simp only[cmp_neg,cmp_zero];omega
 eqv' a b c:=by simp only[cmp_neg,cmp_zero];omega
end Wv
namespace G8
open Rx
set_option maxRecDepth 100000
abbrev Nd:=Gv.Node Wv.Mk Wv.Sw
abbrev Pl:=Gv.PM Nd
def ndL (n:Nd):List Value:=[.int .i64 n.e.t,.bool n.e.ins,.int .i64 n.e.it.k,.int .i64 n.e.it.i,.bool n.e.here,.bool n.e.tf,.int .i64 n.e.tk.k,.int .i64 n.e.tk.i,.int .i64 n.l.i,.int .i64 n.l.g,.int .i64 n.r.i,.int .i64 n.r.g,.int .i64 n.all.n,.int .i64 n.all.sum.c.n,.int .i64 n.all.sum.c.s,.int .i64 n.all.sum.c.l,.int .i64 n.all.sum.w.n,.int .i64 n.all.sum.w.s,.int .i64 n.all.sum.w.l,.int .i64 n.all.sum.d,.int .i64 n.all.sum.f,.int .i64 n.all.sum.m.k,.int .i64 n.all.sum.m.i,.bool n.all.sum.gf,.int .i64 n.all.sum.g.k,.int .i64 n.all.sum.g.i,.bool n.all.sum.lf,.int .i64 n.all.sum.l.k,.int .i64 n.all.sum.l.i,.int .i64 n.h]
def ptL (p:Gv.Part Wv.Sw):List Value:=[.int .i64 p.n,.int .i64 p.sum.c.n,.int .i64 p.sum.c.s,.int .i64 p.sum.c.l,.int .i64 p.sum.w.n,.int .i64 p.sum.w.s,.int .i64 p.sum.w.l,.int .i64 p.sum.d,.int .i64 p.sum.f,.int .i64 p.sum.m.k,.int .i64 p.sum.m.i,.bool p.sum.gf,.int .i64 p.sum.g.k,.int .i64 p.sum.g.i,.bool p.sum.lf,.int .i64 p.sum.l.k,.int .i64 p.sum.l.i]
def elL (e:Wv.Mk):List Value:=[.int .i64 e.t,.bool e.ins,.int .i64 e.it.k,.int .i64 e.it.i,.bool e.here,.bool e.tf,.int .i64 e.tk.k,.int .i64 e.tk.i]
def smL (s:Wv.Sw):List Value:=[.int .i64 s.c.n,.int .i64 s.c.s,.int .i64 s.c.l,.int .i64 s.w.n,.int .i64 s.w.s,.int .i64 s.w.l,.int .i64 s.d,.int .i64 s.f,.int .i64 s.m.k,.int .i64 s.m.i,.bool s.gf,.int .i64 s.g.k,.int .i64 s.g.i,.bool s.lf,.int .i64 s.l.k,.int .i64 s.l.i]
def elOf (l:List Value):Wv.Mk:=⟨(vI (nthV l 0)),(vB (nthV l 1)),⟨(vI (nthV l 2)),(vI (nthV l 3))⟩,(vB (nthV l 4)),(vB (nthV l 5)),⟨(vI (nthV l 6)),(vI (nthV l 7))⟩⟩
def smOf (l:List Value):Wv.Sw:=⟨⟨(vI (nthV l 0)),(vI (nthV l 1)),(vI (nthV l 2))⟩,⟨(vI (nthV l 3)),(vI (nthV l 4)),(vI (nthV l 5))⟩,(vI (nthV l 6)),(vI (nthV l 7)),⟨(vI (nthV l 8)),(vI (nthV l 9))⟩,(vB (nthV l 10)),⟨(vI (nthV l 11)),(vI (nthV l 12))⟩,(vB (nthV l 13)),⟨(vI (nthV l 14)),(vI (nthV l 15))⟩⟩
def ptOf (l:List Value):Gv.Part Wv.Sw:=⟨(vI (nthV l 0)),⟨⟨(vI (nthV l 1)),(vI (nthV l 2)),(vI (nthV l 3))⟩,⟨(vI (nthV l 4)),(vI (nthV l 5)),(vI (nthV l 6))⟩,(vI (nthV l 7)),(vI (nthV l 8)),⟨(vI (nthV l 9)),(vI (nthV l 10))⟩,(vB (nthV l 11)),⟨(vI (nthV l 12)),(vI (nthV l 13))⟩,(vB (nthV l 14)),⟨(vI (nthV l 15)),(vI (nthV l 16))⟩⟩⟩
def ndOf (l:List Value):Nd:=⟨⟨(vI (nthV l 0)),(vB (nthV l 1)),⟨(vI (nthV l 2)),(vI (nthV l 3))⟩,(vB (nthV l 4)),(vB (nthV l 5)),⟨(vI (nthV l 6)),(vI (nthV l 7))⟩⟩,⟨(vI (nthV l 8)),(vI (nthV l 9))⟩,⟨(vI (nthV l 10)),(vI (nthV l 11))⟩,⟨(vI (nthV l 12)),⟨⟨(vI (nthV l 13)),(vI (nthV l 14)),(vI (nthV l 15))⟩,⟨(vI (nthV l 16)),(vI (nthV l 17)),(vI (nthV l 18))⟩,(vI (nthV l 19)),(vI (nthV l 20)),⟨(vI (nthV l 21)),(vI (nthV l 22))⟩,(vB (nthV l 23)),⟨(vI (nthV l 24)),(vI (nthV l 25))⟩,(vB (nthV l 26)),⟨(vI (nthV l 27)),(vI (nthV l 28))⟩⟩⟩,(vI (nthV l 29))⟩
def cellTm:List Value:=[.int .i64 0,.bool false,.int .i64 0,.int .i64 0,.bool false,.bool false,.int .i64 0,.int .i64 0,.int .i64 0,.int .i64 0,.int .i64 0,.int .i64 0,.int .i64 0,.int .i64 0,.int .i64 0,.int .i64 0,.int .i64 0,.int .i64 0,.int .i64 0,.int .i64 0,.int .i64 0,.int .i64 0,.int .i64 0,.bool false,.int .i64 0,.int .i64 0,.bool false,.int .i64 0,.int .i64 0,.int .i64 0,.int .i64 0,.bool false]
abbrev zd:Nd:=Gv.zn Wv.O8
def cV (a:List Int) (b:List Bool) (c:List Int) (d:List Int) (e:List Bool) (f:List Bool) (g:List Int) (h:List Int) (i:List Int) (j:List Int) (k:List Int) (l:List Int) (m:List Int) (n:List Int) (o:List Int) (p:List Int) (q:List Int) (r:List Int) (s:List Int) (t:List Int) (u:List Int) (v:List Int) (w:List Int) (x:List Bool) (y:List Int) (z:List Int) (A:List Bool) (B:List Int) (C:List Int) (D:List Int) (E:List Int) (F:List Bool):List Col:=[⟨a,[],[]⟩,⟨[],b,[]⟩,⟨c,[],[]⟩,⟨d,[],[]⟩,⟨[],e,[]⟩,⟨[],f,[]⟩,⟨g,[],[]⟩,⟨h,[],[]⟩,⟨i,[],[]⟩,⟨j,[],[]⟩,⟨k,[],[]⟩,⟨l,[],[]⟩,⟨m,[],[]⟩,⟨n,[],[]⟩,⟨o,[],[]⟩,⟨p,[],[]⟩,⟨q,[],[]⟩,⟨r,[],[]⟩,⟨s,[],[]⟩,⟨t,[],[]⟩,⟨u,[],[]⟩,⟨v,[],[]⟩,⟨w,[],[]⟩,⟨[],x,[]⟩,⟨y,[],[]⟩,⟨z,[],[]⟩,⟨[],A,[]⟩,⟨B,[],[]⟩,⟨C,[],[]⟩,⟨D,[],[]⟩,⟨E,[],[]⟩,⟨[],F,[]⟩]
def cM (v:List Nd) (g:List Int) (b:List Bool):List Col:=cV (v.map fun n:Nd=>n.e.t) (v.map fun n:Nd=>n.e.ins) (v.map fun n:Nd=>n.e.it.k) (v.map fun n:Nd=>n.e.it.i) (v.map fun n:Nd=>n.e.here) (v.map fun n:Nd=>n.e.tf) (v.map fun n:Nd=>n.e.tk.k) (v.map fun n:Nd=>n.e.tk.i) (v.map fun n:Nd=>n.l.i) (v.map fun n:Nd=>n.l.g) (v.map fun n:Nd=>n.r.i) (v.map fun n:Nd=>n.r.g) (v.map fun n:Nd=>n.all.n) (v.map fun n:Nd=>n.all.sum.c.n) (v.map fun n:Nd=>n.all.sum.c.s) (v.map fun n:Nd=>n.all.sum.c.l) (v.map fun n:Nd=>n.all.sum.w.n) (v.map fun n:Nd=>n.all.sum.w.s) (v.map fun n:Nd=>n.all.sum.w.l) (v.map fun n:Nd=>n.all.sum.d) (v.map fun n:Nd=>n.all.sum.f) (v.map fun n:Nd=>n.all.sum.m.k) (v.map fun n:Nd=>n.all.sum.m.i) (v.map fun n:Nd=>n.all.sum.gf) (v.map fun n:Nd=>n.all.sum.g.k) (v.map fun n:Nd=>n.all.sum.g.i) (v.map fun n:Nd=>n.all.sum.lf) (v.map fun n:Nd=>n.all.sum.l.k) (v.map fun n:Nd=>n.all.sum.l.i) (v.map fun n:Nd=>n.h) g b
def cS (v:List Nd) (k:Nat) (x:Nd) (g:List Int) (b:List Bool):List Col:=cV ((v.map fun n:Nd=>n.e.t).set k x.e.t) ((v.map fun n:Nd=>n.e.ins).set k x.e.ins) ((v.map fun n:Nd=>n.e.it.k).set k x.e.it.k) ((v.map fun n:Nd=>n.e.it.i).set k x.e.it.i) ((v.map fun n:Nd=>n.e.here).set k x.e.here) ((v.map fun n:Nd=>n.e.tf).set k x.e.tf) ((v.map fun n:Nd=>n.e.tk.k).set k x.e.tk.k) ((v.map fun n:Nd=>n.e.tk.i).set k x.e.tk.i) ((v.map fun n:Nd=>n.l.i).set k x.l.i) ((v.map fun n:Nd=>n.l.g).set k x.l.g) ((v.map fun n:Nd=>n.r.i).set k x.r.i) ((v.map fun n:Nd=>n.r.g).set k x.r.g) ((v.map fun n:Nd=>n.all.n).set k x.all.n) ((v.map fun n:Nd=>n.all.sum.c.n).set k x.all.sum.c.n) ((v.map fun n:Nd=>n.all.sum.c.s).set k x.all.sum.c.s) ((v.map fun n:Nd=>n.all.sum.c.l).set k x.all.sum.c.l) ((v.map fun n:Nd=>n.all.sum.w.n).set k x.all.sum.w.n) ((v.map fun n:Nd=>n.all.sum.w.s).set k x.all.sum.w.s) ((v.map fun n:Nd=>n.all.sum.w.l).set k x.all.sum.w.l) ((v.map fun n:Nd=>n.all.sum.d).set k x.all.sum.d) ((v.map fun n:Nd=>n.all.sum.f).set k x.all.sum.f) ((v.map fun n:Nd=>n.all.sum.m.k).set k x.all.sum.m.k) ((v.map fun n:Nd=>n.all.sum.m.i).set k x.all.sum.m.i) ((v.map fun n:Nd=>n.all.sum.gf).set k x.all.sum.gf) ((v.map fun n:Nd=>n.all.sum.g.k).set k x.all.sum.g.k) ((v.map fun n:Nd=>n.all.sum.g.i).set k x.all.sum.g.i) ((v.map fun n:Nd=>n.all.sum.lf).set k x.all.sum.lf) ((v.map fun n:Nd=>n.all.sum.l.k).set k x.all.sum.l.k) ((v.map fun n:Nd=>n.all.sum.l.i).set k x.all.sum.l.i) ((v.map fun n:Nd=>n.h).set k x.h) g b
def cG (v:List Nd) (k:Nat) (x:Nd) (g:List Int) (b:List Bool):List Col:=cV (((v.map fun n:Nd=>n.e.t)++[0]).set k x.e.t) (((v.map fun n:Nd=>n.e.ins)++[false]).set k x.e.ins) (((v.map fun n:Nd=>n.e.it.k)++[0]).set k x.e.it.k) (((v.map fun n:Nd=>n.e.it.i)++[0]).set k x.e.it.i) (((v.map fun n:Nd=>n.e.here)++[false]).set k x.e.here) (((v.map fun n:Nd=>n.e.tf)++[false]).set k x.e.tf) (((v.map fun n:Nd=>n.e.tk.k)++[0]).set k x.e.tk.k) (((v.map fun n:Nd=>n.e.tk.i)++[0]).set k x.e.tk.i) (((v.map fun n:Nd=>n.l.i)++[0]).set k x.l.i) (((v.map fun n:Nd=>n.l.g)++[0]).set k x.l.g) (((v.map fun n:Nd=>n.r.i)++[0]).set k x.r.i) (((v.map fun n:Nd=>n.r.g)++[0]).set k x.r.g) (((v.map fun n:Nd=>n.all.n)++[0]).set k x.all.n) (((v.map fun n:Nd=>n.all.sum.c.n)++[0]).set k x.all.sum.c.n) (((v.map fun n:Nd=>n.all.sum.c.s)++[0]).set k x.all.sum.c.s) (((v.map fun n:Nd=>n.all.sum.c.l)++[0]).set k x.all.sum.c.l) (((v.map fun n:Nd=>n.all.sum.w.n)++[0]).set k x.all.sum.w.n) (((v.map fun n:Nd=>n.all.sum.w.s)++[0]).set k x.all.sum.w.s) (((v.map fun n:Nd=>n.all.sum.w.l)++[0]).set k x.all.sum.w.l) (((v.map fun n:Nd=>n.all.sum.d)++[0]).set k x.all.sum.d) (((v.map fun n:Nd=>n.all.sum.f)++[0]).set k x.all.sum.f) (((v.map fun n:Nd=>n.all.sum.m.k)++[0]).set k x.all.sum.m.k) (((v.map fun n:Nd=>n.all.sum.m.i)++[0]).set k x.all.sum.m.i) (((v.map fun n:Nd=>n.all.sum.gf)++[false]).set k x.all.sum.gf) (((v.map fun n:Nd=>n.all.sum.g.k)++[0]).set k x.all.sum.g.k) (((v.map fun n:Nd=>n.all.sum.g.i)++[0]).set k x.all.sum.g.i) (((v.map fun n:Nd=>n.all.sum.lf)++[false]).set k x.all.sum.lf) (((v.map fun n:Nd=>n.all.sum.l.k)++[0]).set k x.all.sum.l.k) (((v.map fun n:Nd=>n.all.sum.l.i)++[0]).set k x.all.sum.l.i) (((v.map fun n:Nd=>n.h)++[0]).set k x.h) g b
def gM (v:List Nd) (k:Nat):List Value:=[.int .i64 ((v.map fun n:Nd=>n.e.t).getD k 0),.bool ((v.map fun n:Nd=>n.e.ins).getD k false),.int .i64 ((v.map fun n:Nd=>n.e.it.k).getD k 0),.int .i64 ((v.map fun n:Nd=>n.e.it.i).getD k 0),.bool ((v.map fun n:Nd=>n.e.here).getD k false),.bool ((v.map fun n:Nd=>n.e.tf).getD k false),.int .i64 ((v.map fun n:Nd=>n.e.tk.k).getD k 0),.int .i64 ((v.map fun n:Nd=>n.e.tk.i).getD k 0),.int .i64 ((v.map fun n:Nd=>n.l.i).getD k 0),.int .i64 ((v.map fun n:Nd=>n.l.g).getD k 0),.int .i64 ((v.map fun n:Nd=>n.r.i).getD k 0),.int .i64 ((v.map fun n:Nd=>n.r.g).getD k 0),.int .i64 ((v.map fun n:Nd=>n.all.n).getD k 0),.int .i64 ((v.map fun n:Nd=>n.all.sum.c.n).getD k 0),.int .i64 ((v.map fun n:Nd=>n.all.sum.c.s).getD k 0),.int .i64 ((v.map fun n:Nd=>n.all.sum.c.l).getD k 0),.int .i64 ((v.map fun n:Nd=>n.all.sum.w.n).getD k 0),.int .i64 ((v.map fun n:Nd=>n.all.sum.w.s).getD k 0),.int .i64 ((v.map fun n:Nd=>n.all.sum.w.l).getD k 0),.int .i64 ((v.map fun n:Nd=>n.all.sum.d).getD k 0),.int .i64 ((v.map fun n:Nd=>n.all.sum.f).getD k 0),.int .i64 ((v.map fun n:Nd=>n.all.sum.m.k).getD k 0),.int .i64 ((v.map fun n:Nd=>n.all.sum.m.i).getD k 0),.bool ((v.map fun n:Nd=>n.all.sum.gf).getD k false),.int .i64 ((v.map fun n:Nd=>n.all.sum.g.k).getD k 0),.int .i64 ((v.map fun n:Nd=>n.all.sum.g.i).getD k 0),.bool ((v.map fun n:Nd=>n.all.sum.lf).getD k false),.int .i64 ((v.map fun n:Nd=>n.all.sum.l.k).getD k 0),.int .i64 ((v.map fun n:Nd=>n.all.sum.l.i).getD k 0),.int .i64 ((v.map fun n:Nd=>n.h).getD k 0)]
def layPool (m:Pl):Hp Empty :=
 [some (.inl (156,[.slice (some ⟨1,0,some 32000⟩) m.vs.length 0,.slice (some ⟨2,0,some 1000⟩) m.free.length 0,.int .i64 m.held,.int .i64 m.cap,.int .i64 m.visits])),
 some (.inr (.inl (159,⟨cellTm,m.vs.length,cM m.vs m.gens m.live⟩))),
 some (.inr (.inl (3,⟨[.int .i64 0],m.free.length,[⟨m.free,[],[]⟩]⟩)))]
end G8
namespace G8
open Rx
inductive Rs
 |pool (m:Pl)
def lay:Rs->Hp Empty
 |.pool m=>layPool m
def L:Lay Rs Empty where
 lay:=lay
 ne x:=by cases x<;>exact Nat.succ_pos _
 own x b X h:=by cases x<;>exact noViews_get rfl h
 ins x:=by cases x<;>rfl
def D:Res Rs:=resOf NoR L
end G8
namespace Rx
open Go.RowKit State
section
variable {R R0:Type} {D0:Res R0} {L:Lay R R0} {P:Program}
structure Up (L:Lay R R0) (c:Con R0) (args:List Value) (hh:Hp R) (x:Out R):Prop where
 ex:∃ x0,way c true (mvL (off L hh) args) (unf L hh)/\c.go true (mvL (off L hh) args) (unf L hh)=some x0/\x0.vc/\x0.hp=unf L x.hp/\x0.v=mvV (off L x.hp) x.v
 off:allLt (fun b=>Nat.beq (Rx.off L x.hp b) (Rx.off L hh b)) hh.length=true
 ins:hpIn x.hp.length x.hp=true
theorem res_up {f:FuncId} {c:Con R0} {spec:Prim R} (hc:ConOk D0 P f c)
  (H:∀ args hh x,spec args hh=some x->hh.length≤x.hp.length/\(∀ b,x.lit=some b->x.v=.bool b)/\(x.wr=[]->x.hp=hh)/\(x.vc->Up L c args hh x)) :
  ConOk (resOf D0 L) P f (con1 spec):=by
 refine con1_ok ⟨(hc true).known,fun args hh x _ hx C ρ ft w hm hv hi=>?_,fun args hh x hx=>(H args hh x hx).1,fun args hh x hx=>(H args hh x hx).2.1,fun args hh x hx=>(H args hh x hx).2.2.1⟩
 obtain⟨_,_,_,h4⟩:=H args hh x hx;obtain⟨⟨x0,q0,q1,q2,q3,q4⟩,q5,q6⟩:=h4 hv;obtain⟨ρ1,ft1,o1,o2⟩:=hm.open_;have hargs:args.map (ren ρ)=(mvL (off L hh) args).map (ren ρ1):=by
  rw[map_ren_mv,← renL_eq,← renL_eq];exact(renL_congr (n:=hh.length) (fun b hb=>o1 b hb) args hi).symm
 rw[hargs];have hin:inbL (unf L hh).length (mvL (off L hh) args)=true:=inbL_mv (n:=hh.length) (fun b hb=>by
  have:=off_lt (L:=L) hh (b:=b) (i:=0) hb (width_pos _)
  simpa using this) args hi
 refine((hc true).run _ _ x0 q0 q1 C ρ1 ft1 w o2 q2 hin).mono fun e w' ⟨ρ',ft',g1,g2,g3⟩=>?_
 rw[q3] at g3;refine⟨_,_,fun b hb=>?_,?_,g3.close_ q6⟩
 ·show ρ' (off L x.hp b)=ρ b
  have h6:off L hh b<(unf L hh).length:=by
   have:=off_lt (L:=L) hh (b:=b) (i:=0) hb (width_pos _)
   simpa using this
  have:=allLt_get q5 hb;rw[Nat.eq_of_beq_eq_true this,g1 _ h6,o1 b hb]
 ·rw[g2,q4,ren_mv]
end
end Rx
namespace Gv
open Rx
set_option linter.unusedSectionVars false
section
variable {E A:Type} (O:Ops E A)
def lo (e:E) (l:List (Ref×E)):List (Ref×E):=l.takeWhile fun x=>decide (0<O.cmp e x.2)
def hi (e:E) (l:List (Ref×E)):List (Ref×E):=l.dropWhile fun x=>decide (0<O.cmp e x.2)
def hit (e:E) (l:List (Ref×E)):Option (Ref×E) :=
 match hi O e l with
 |[]=>none
 |x::_=>if O.cmp e x.2=0 then some x else none
def Srt (l:List (Ref×E)):Prop:=l.Pairwise fun a b=>O.cmp a.2 b.2<0
theorem lo_hi (e:E) (l:List (Ref×E)):lo O e l++hi O e l=l:=List.takeWhile_append_dropWhile
variable {O} {S:List E->A} {good:List E->Prop} (Z:Laws O S good)
theorem tw_append {α:Type} (p:α->Bool):∀ (l q:List α),(∀ x∈l,p x=true)->(l++q).takeWhile p=l++q.takeWhile p/\(l++q).dropWhile p=q.dropWhile p
 |[],q,_=>⟨rfl,rfl⟩
 |a::l,q,h=>by
  obtain⟨h1,h2⟩:=tw_append p l q fun x hx=>h x (List.mem_cons_of_mem _ hx)
  have ha:=h a List.mem_cons_self;simp[List.takeWhile_cons,List.dropWhile_cons,ha,h1,h2]
theorem tw_stop {α:Type} (p:α->Bool) (a:α) (q:List α) (ha:p a=false):∀ l:List α,(l++a::q).takeWhile p=l.takeWhile p/\(l++a::q).dropWhile p=l.dropWhile p++a::q
 |[]=>by simp[List.takeWhile_cons,List.dropWhile_cons,ha]
 |b::l=>by
  obtain⟨h1,h2⟩:=tw_stop p a q ha l;simp only[List.cons_append,List.takeWhile_cons,List.dropWhile_cons];split
  ·exact⟨by rw[h1],h2⟩
  ·exact⟨rfl,rfl⟩
theorem lo_lt {e:E} {l q:List (Ref×E)} {r:Ref} {x:E} (h:O.cmp e x<0):lo O e (l++(r,x)::q)=lo O e l/\hi O e (l++(r,x)::q)=hi O e l++(r,x)::q :=
 tw_stop _ _ _ (by simp;omega) _
include Z in
theorem Srt.ahead {l q:List (Ref×E)} {r:Ref} {x e:E} (hs:Srt O (l++(r,x)::q)) (h:0≤O.cmp e x):∀ y∈l,decide (0<O.cmp e y.2)=true:=by
 intro y hy;have h1:O.cmp y.2 x<0:=(List.pairwise_append.1 hs).2.2 y hy (r,x) List.mem_cons_self;refine decide_eq_true ((Z.swap _ _).1 ?_);rcases Int.lt_or_eq_of_le h with h2|h2
 ·exact Z.trans _ _ _ h1 ((Z.swap _ _).2 h2)
 ·exact Z.eqv' _ _ _ h2.symm h1
include Z in
theorem lo_gt {e:E} {l q:List (Ref×E)} {r:Ref} {x:E} (hs:Srt O (l++(r,x)::q)) (h:0<O.cmp e x):lo O e (l++(r,x)::q)=l++(r,x)::lo O e q/\hi O e (l++(r,x)::q)=hi O e q:=by
 obtain⟨h1,h2⟩:=tw_append (fun y:Ref×E=>decide (0<O.cmp e y.2)) l ((r,x)::q) (hs.ahead Z (by omega))
 have hx:decide (0<O.cmp e x)=true:=decide_eq_true h;unfold lo hi;rw[h1,h2,List.takeWhile_cons,List.dropWhile_cons,if_pos hx,if_pos hx];exact⟨rfl,rfl⟩
include Z in
theorem lo_eq {e:E} {l q:List (Ref×E)} {r:Ref} {x:E} (hs:Srt O (l++(r,x)::q)) (h:O.cmp e x=0):lo O e (l++(r,x)::q)=l/\hi O e (l++(r,x)::q)=(r,x)::q:=by
 obtain⟨h1,h2⟩:=tw_append (fun y:Ref×E=>decide (0<O.cmp e y.2)) l ((r,x)::q) (hs.ahead Z (by omega))
 have hx:¬ decide (0<O.cmp e x)=true:=by simp;omega
 unfold lo hi;rw[h1,h2,List.takeWhile_cons,List.dropWhile_cons,if_neg hx,if_neg hx];simp
theorem hit_lt {e:E} {l q:List (Ref×E)} {r:Ref} {x:E} (h:O.cmp e x<0):hit O e (l++(r,x)::q)=hit O e l:=by
 unfold hit;rw[(lo_lt h).2];cases hl:hi O e l with
 |nil=>simp only[List.nil_append];rw[if_neg (by omega)]
 |cons y tl=>rfl
include Z in
theorem hit_gt {e:E} {l q:List (Ref×E)} {r:Ref} {x:E} (hs:Srt O (l++(r,x)::q)) (h:0<O.cmp e x):hit O e (l++(r,x)::q)=hit O e q:=by
 unfold hit;rw[(lo_gt Z hs h).2]
include Z in
theorem hit_eq {e:E} {l q:List (Ref×E)} {r:Ref} {x:E} (hs:Srt O (l++(r,x)::q)) (h:O.cmp e x=0):hit O e (l++(r,x)::q)=some (r,x):=by
 unfold hit;rw[(lo_eq Z hs h).2];simp only;rw[if_pos h]
theorem hit_some {e:E} {l:List (Ref×E)} {x:Ref×E} (h:hit O e l=some x):hi O e l=x::(hi O e l).tail/\O.cmp e x.2=0/\x∈l:=by
 unfold hit at h;split at h
 ·cases h
 ·rename_i y tl hy;split at h
  ·rename_i hc;injection h with h
   subst h;rw[hy];refine⟨rfl,hc,?_⟩;rw[← lo_hi O e l,hy];simp
  ·cases h
theorem Srt.left {l q:List (Ref×E)} (h:Srt O (l++q)):Srt O l:=(List.pairwise_append.1 h).1
theorem Srt.right {l q:List (Ref×E)} (h:Srt O (l++q)):Srt O q:=(List.pairwise_append.1 h).2.1
abbrev gd (good:List E->Prop) (l:List (Ref×E)):Prop:=good (l.map Prod.snd)
abbrev rf (l:List (Ref×E)):List Ref:=l.map Prod.fst
theorem Tr.items_node (r:Ref) (l:Tr E) (e:E) (q:Tr E):(Tr.node r l e q).items=l.items++(r,e)::q.items:=rfl
include Z
theorem hang_tr {n:Nat} {f:Ref} {e:E}:∀ (t:Tr E) {k:Nat} {m:Po E A},POk n m->Rp O S m t->t.bal->Srt O t.items->(f::t.refs).Nodup->has m f=true ->
  lk O m f=⟨e,r0,r0,one O e,1⟩->hit O e t.items=none->gd good (lo O e t.items++(f,e)::hi O e t.items)->t.h<k ->
  ∃ t',Is O S (hang O k m t.root f e).2 (hang O k m t.root f e).1 (lo O e t.items++(f,e)::hi O e t.items) t'/\t.h≤t'.h/\t'.h≤t.h+1/\Upd (f::t.refs) (30*t.h+1) (zn O) m (hang O k m t.root f e).2
 |t,0,m,_,_,_,_,_,_,_,_,_,hk=>by omega
 |.nil,k+1,m,ho,hr,hb,hs,hn,hf,hfe,hh,hg,hk=>by
  have h0:(lk O m (Tr.nil (E:=E)).root).h=0:=by rw[(show Rp O S m .nil from trivial).root ho];rfl
  rw[hang,if_pos h0];refine⟨.node f .nil e .nil,⟨rfl,⟨by simpa using hf,?_,trivial,trivial⟩,rfl,⟨trivial,trivial,by simp[Tr.h],by simp[Tr.h]⟩⟩,by simp[Tr.h],by simp[Tr.h],(see_upd _ _ _).mono (fun s hs=>by cases hs) (by omega)⟩
  rw[lk_see,hfe,nd_node];simp[Tr.items,Tr.elems,Tr.h,Tr.root,one,Z.one]
 |.node r l x q,k+1,m,ho,hr,hb,hs,hn,hf,hfe,hh,hg,hk=>by
  have hrt:=hr.root ho;obtain⟨hr1,hr2,hr3,hr4⟩:=hr;obtain⟨b1,b2,b3,b4⟩:=hb;have h0:¬ (lk O m r).h=0:=by rw[hr2,nd_h];simp only[Tr.h];omega
  simp only[Tr.root];rw[Tr.items_node] at hs hh hg ⊢;rw[Tr.refs_node] at hn ⊢;rw[hang,if_neg h0,hr2,nd_node];simp only[Tr.h] at hk ⊢;have hne:O.cmp e x≠0:=fun hx=>by rw[hit_eq Z hs hx] at hh;cases hh
  by_cases hc:O.cmp e x<0
  ·rw[if_pos hc];obtain⟨e1,e2⟩:=lo_lt (l:=l.items) (q:=q.items) (r:=r) hc;rw[e1,e2] at hg ⊢;rw[hit_lt hc] at hh;have hg1:gd good (lo O e l.items++(f,e)::hi O e l.items):=Z.left _ ((x::q.elems)) (by simpa [gd,Tr.elems] using hg)
   have hn1:(f::l.refs).Nodup:=(List.nodup_append (l₂:=r::q.refs).1 (by simpa using hn)).1
   obtain⟨t',h1,h2,h3,h4⟩:=hang_tr l (k:=k) (m:=see m r) (see_ok.2 ho) (hr3.see _) b1 hs.left hn1 (by simpa using hf) (by rw[lk_see];exact hfe) hh hg1 (by omega)
   have hu:Upd (f::l.refs) (30*l.h+2) (zn O) m (hang O k (see m r) l.root f e).2:=(see_upd _ m r).to h4 (fun s hs=>by simpa using hs) (by omega)
   have hrefs:t'.refs=rf (lo O e l.items)++f::rf (hi O e l.items):=by simp[Tr.refs,h1.its]
   have hlr:l.refs=rf (lo O e l.items)++rf (hi O e l.items):=by rw[Tr.refs];conv=>lhs;rw[← lo_hi O e l.items];simp
   have hnd:(t'.refs++r::q.refs).Nodup:=by
    rw[hrefs];rw[hlr] at hn;have:(rf (lo O e l.items)++f::(rf (hi O e l.items)++r::q.refs)).Nodup:=List.perm_middle.nodup_iff.2 (by simpa using hn)
    simpa using this
   have hni:∀ s,s∈r::q.refs->s∉f::l.refs:=fun s hs hs2=>(List.nodup_append (l₁:=f::l.refs) (l₂:=r::q.refs).1 (by simpa using hn)).2.2 s hs2 s hs rfl
   rw[h1.root];obtain⟨u,u1,u2,u3,u4,u5⟩:=level_tr Z (m:=(hang O k (see m r) l.root f e).2) (hang_ok.2 (see_ok.2 ho)) (r:=r) (l:=t') (q:=q)
    (v:=⟨x,t'.root,q.root,⟨(Tr.node r l x q).items.length,S (Tr.node r l x q).elems⟩,((Tr.node r l x q).h:Nat)⟩) h1.rp (Rp.frame hu (fun s hs=>hni s (by simp[hs])) hr4) (by rw[hu.has];exact hr1) hnd rfl rfl
    (by rw[Tr.elems,h1.its];simpa [gd,Tr.elems] using hg) h1.bal b2 (by omega) (by omega)
   refine⟨u,⟨u1.root,u1.rp,by rw[u1.its,h1.its];simp,u1.bal⟩,?_,by omega,hu.to u5 (fun s hs=>?_) (by omega)⟩
   ·rcases Nat.lt_or_ge (q.h+1) t'.h with hx|hx
    ·omega
    ·have:=u4 hx (by omega);omega
   ·rw[hrefs] at hs;rw[hlr] at hs ⊢;simp only[List.mem_cons,List.mem_append] at hs ⊢;rcases hs with(h|h|h)|(h|h|h)|h|h<;>simp[h]
  ·rw[if_neg hc];have hc2:0<O.cmp e x:=by omega
   obtain⟨e1,e2⟩:=lo_gt Z hs hc2;rw[e1,e2] at hg ⊢;rw[hit_gt Z hs hc2] at hh;have hg1:gd good (lo O e q.items++(f,e)::hi O e q.items):=Z.right (l.elems++[x]) _ (by simpa [gd,Tr.elems] using hg)
   have hn0:=List.nodup_cons.1 hn;have hn1:(f::q.refs).Nodup:=List.nodup_cons.2 ⟨fun h=>hn0.1 (by simp[h]),(List.nodup_cons.1 (List.nodup_append.1 hn0.2).2.1).2⟩
   have hsq:Srt O q.items:=(List.pairwise_cons.1 hs.right).2;obtain⟨t',h1,h2,h3,h4⟩:=hang_tr q (k:=k) (m:=see m r) (see_ok.2 ho) (hr4.see _) b2 hsq hn1 (by simpa using hf) (by rw[lk_see];exact hfe) hh hg1 (by omega)
   have hu:Upd (f::q.refs) (30*q.h+2) (zn O) m (hang O k (see m r) q.root f e).2:=(see_upd _ m r).to h4 (fun s hs=>by simpa using hs) (by omega)
   have hrefs:t'.refs=rf (lo O e q.items)++f::rf (hi O e q.items):=by simp[Tr.refs,h1.its]
   have hlr:q.refs=rf (lo O e q.items)++rf (hi O e q.items):=by rw[Tr.refs];conv=>lhs;rw[← lo_hi O e q.items];simp
   have hnd:(l.refs++r::t'.refs).Nodup:=by
    rw[hrefs];rw[hlr] at hn;have:((l.refs++r::rf (lo O e q.items))++f::rf (hi O e q.items)).Nodup:=List.perm_middle.nodup_iff.2 (by simpa using hn)
    simpa using this
   have hni:∀ s,s∈l.refs++[r]->s∉f::q.refs:=fun s hs hs2=>by
    rcases List.mem_cons.1 hs2 with rfl|hs2
    ·refine hn0.1 ?_;rcases List.mem_append.1 hs with h|h
     ·simp[h]
     ·simp at h;simp[h]
    ·have:((l.refs++[r])++q.refs).Nodup:=by simpa using hn0.2
     exact(List.nodup_append.1 this).2.2 s hs s hs2 rfl
   rw[h1.root];obtain⟨u,u1,u2,u3,u4,u5⟩:=level_tr Z (m:=(hang O k (see m r) q.root f e).2) (hang_ok.2 (see_ok.2 ho)) (r:=r) (l:=l) (q:=t')
    (v:=⟨x,l.root,t'.root,⟨(Tr.node r l x q).items.length,S (Tr.node r l x q).elems⟩,((Tr.node r l x q).h:Nat)⟩) (Rp.frame hu (fun s hs=>hni s (by simp[hs])) hr3) h1.rp (by rw[hu.has];exact hr1) hnd rfl rfl
    (by rw[show t'.elems=t'.items.map Prod.snd from rfl,h1.its];simpa [gd,Tr.elems] using hg) b1 h1.bal (by omega) (by omega)
   refine⟨u,⟨u1.root,u1.rp,by rw[u1.its,h1.its];simp,u1.bal⟩,?_,by omega,hu.to u5 (fun s hs=>?_) (by omega)⟩
   ·rcases Nat.lt_or_ge (l.h+1) t'.h with hx|hx
    ·omega
    ·have:=u4 (by omega) hx;omega
   ·rw[hrefs] at hs;rw[hlr] at hs ⊢;simp only[List.mem_cons,List.mem_append] at hs ⊢;rcases hs with(h|h|h)|h|h|h|h|h<;>simp[h]
end
end Gv
namespace Gv
open Rx
set_option linter.unusedSectionVars false
section
variable {E A:Type} {O:Ops E A} {S:List E->A} {good:List E->Prop} (Z:Laws O S good)
theorem Tr.root_node (r:Ref) (l:Tr E) (e:E) (q:Tr E):(Tr.node r l e q).root=r:=rfl
theorem Deep_tr {n:Nat}:∀ (t:Tr E) {k:Nat} {m:Po E A},POk n m->Rp O S m t->t.h<k->Deep O k m t.root
 |t,0,m,_,_,hk=>by omega
 |.nil,k+1,m,ho,hr,hk=>.inl (by rw[hr.root ho];rfl)
 |.node r l x q,k+1,m,ho,⟨hr1,hr2,hr3,hr4⟩,hk=>by
  simp only[Tr.h] at hk;refine .inr ?_;simp only[Tr.root];rw[hr2,nd_node];exact⟨Deep_tr l ho hr3 (by omega),Deep_tr q ho hr4 (by omega)⟩
theorem Rp.elem {m:Po E A}:∀ {t:Tr E},Rp O S m t->∀ p,p∈t.items->(lk O m p.1).e=p.2
 |.nil,_,p,hp=>by cases hp
 |.node r l x q,⟨h1,h2,h3,h4⟩,p,hp=>by
  rw[Tr.items_node,List.mem_append,List.mem_cons] at hp;rcases hp with hp|rfl|hp
  ·exact Rp.elem h3 p hp
  ·rw[h2];rfl
  ·exact Rp.elem h4 p hp
theorem lo_lt' {e:E} {l q:List (Ref×E)} {r:Ref} {x:E} (h:¬ 0<O.cmp e x):lo O e (l++(r,x)::q)=lo O e l/\hi O e (l++(r,x)::q)=hi O e l++(r,x)::q :=
 tw_stop _ _ _ (by simp;omega) _
theorem nil_of_root {n:Nat} {m:Po E A} (ho:POk n m) {t:Tr E} (h:Rp O S m t) (hr:t.root=r0):t=.nil:=by
 cases t with
 |nil=>rfl
 |node r l x q=>exact absurd hr (root_ne ho h (by simp))
theorem see3_upd (m:Po E A) (a b c:Ref):Upd [] 3 (zn O) m (see (see (see m a) b) c):=(see2_upd m a b).to (see_upd _ _ c) (fun r hr=>by simp at hr) (Nat.le_refl _)
include Z
theorem link_tr {n:Nat} {b:Ref} {e:E}:∀ (k:Nat) (l q:Tr E) {m:Po E A},POk n m->Rp O S m l->Rp O S m q->has m b=true->(lk O m b).e=e->(l.refs++b::q.refs).Nodup->good (l.elems++e::q.elems)->l.bal->q.bal->l.h+q.h<k ->
  LinkD O k m l.root b q.root/\∃ t,Is O S (link O k m l.root b q.root).2 (link O k m l.root b q.root).1 (l.items++(b,e)::q.items) t/\max l.h q.h≤t.h/\t.h≤max l.h q.h+1/\(l.h≤q.h+1->q.h≤l.h+1->t.h=max l.h q.h+1) /\
   Upd (l.refs++b::q.refs) (30*(l.h+q.h)+4) (zn O) m (link O k m l.root b q.root).2
 |0,l,q,m,_,_,_,_,_,_,_,_,_,hk=>by omega
 |k+1,l,q,m,ho,hl,hq,hb,he,nod,hg,bl,bq,hk=>by
  have k1:lk O m l.root=nd O S l:=hl.root ho;have k2:lk O m q.root=nd O S q:=hq.root ho;have hlen:=Z.len _ hg;have h1:=l.h_le;have h2:=q.h_le;simp only[List.length_append,List.length_cons,Tr.elems_length] at hlen;have w1:W ((q.h:Int)+1)=(q.h:Int)+1:=W_of (by omega)
  have w2:W ((l.h:Int)+1)=(l.h:Int)+1:=W_of (by omega)
  have ho2:POk n (see (see m l.root) q.root):=see_ok.2 (see_ok.2 ho);have nodc:=nod;simp only[List.nodup_append,List.nodup_cons,List.mem_append,List.mem_cons,not_or] at nodc;rw[LinkD,link];simp only[lk_see,k1,k2,nd_h,w1,w2]
  by_cases c1:(l.h:Int)>q.h+1
  ·rw[if_pos c1,if_pos c1];cases l with
   |nil=>simp only[Tr.h] at c1;omega
   |node a ll x lr =>
    obtain⟨hl1,hl2,hl3,hl4⟩:=hl;obtain⟨bl1,bl2,bl3,bl4⟩:=bl;simp only[Tr.h] at c1 hk;simp only[nd_node,Tr.root_node,Tr.h];rw[Tr.refs_node] at nod ⊢;rw[Tr.elems_node] at hg;have nod':(ll.refs++a::(lr.refs++b::q.refs)).Nodup:=by simpa using nod
    obtain⟨d,t',i1,i2,i3,i4,i5⟩:=link_tr k lr q (m:=see (see m a) q.root) (see_ok.2 (see_ok.2 ho)) ((hl4.see _).see _) ((hq.see _).see _) (by simpa using hb) (by simpa using he) (List.nodup_cons.1 (List.nodup_append.1 nod').2.1).2
     (Z.right (ll.elems++[x]) _ (by simpa using hg)) bl2 bq (by omega)
    have hu:=(see2_upd (O:=O) m a q.root).to i5 (S:=lr.refs++b::q.refs) (k:=30*(lr.h+q.h)+6) (fun s hs=>by simpa using hs) (by omega)
    have hr':t'.refs=lr.refs++b::q.refs:=by rw[Tr.refs,i1.its];simp[Tr.refs]
    have he':t'.elems=lr.elems++e::q.elems:=by rw[Tr.elems,i1.its];simp[Tr.elems]
    have dis:∀ s,s∈ll.refs++[a]->s∉lr.refs++b::q.refs:=fun s hs hs2=>by
     have:((ll.refs++[a])++(lr.refs++b::q.refs)).Nodup:=by simpa using nod'
     exact(List.nodup_append.1 this).2.2 s hs s hs2 rfl
    refine⟨d,?_⟩;rw[i1.root];obtain⟨u,u1,u2,u3,u4,u5⟩:=level_tr Z (m:=(link O k (see (see m a) q.root) lr.root b q.root).2) (link_ok.2 (see_ok.2 (see_ok.2 ho))) (r:=a) (l:=ll) (q:=t')
     (v:=⟨x,ll.root,t'.root,⟨(Tr.node a ll x lr).items.length,S (Tr.node a ll x lr).elems⟩,((Tr.node a ll x lr).h:Nat)⟩) (Rp.frame hu (fun s hs=>dis s (by simp[hs])) hl3) i1.rp (by rw[hu.has];exact hl1)
     (by rw[hr'];exact nod') rfl rfl (by rw[he'];simpa using hg) bl1 i1.bal (by omega) (by omega)
    simp only[Tr.h] at u4 u5 ⊢;refine⟨u,⟨u1.root,u1.rp,by rw[u1.its,i1.its];simp[Tr.items],u1.bal⟩,?_,?_,fun _ _=>by omega,hu.to u5 (fun s hs=>?_) (by omega)⟩
    ·rcases Nat.lt_or_ge (ll.h+1) t'.h with hx|hx
     ·omega
     ·have:=u4 (by omega) hx;omega
    ·rcases Nat.lt_or_ge (ll.h+1) t'.h with hx|hx
     ·omega
     ·have:=u4 (by omega) hx;omega
    ·rw[hr'] at hs;simp only[List.mem_append,List.mem_cons] at hs ⊢;rcases hs with(h|h|h)|h|h|h|h|h<;>simp[h]
  ·rw[if_neg c1,if_neg c1]
   by_cases c2:(q.h:Int)>l.h+1
   ·rw[if_pos c2,if_pos c2];cases q with
    |nil=>simp only[Tr.h] at c2;omega
    |node a ql x qr =>
     obtain⟨hq1,hq2,hq3,hq4⟩:=hq;obtain⟨bq1,bq2,bq3,bq4⟩:=bq;simp only[Tr.h] at c2 hk;simp only[nd_node,Tr.root_node,Tr.h];rw[Tr.refs_node] at nod ⊢;rw[Tr.elems_node] at hg;have nod':((l.refs++b::ql.refs)++a::qr.refs).Nodup:=by simpa using nod
     obtain⟨d,t',i1,i2,i3,i4,i5⟩:=link_tr k l ql (m:=see (see m l.root) a) (see_ok.2 (see_ok.2 ho)) ((hl.see _).see _) ((hq3.see _).see _) (by simpa using hb) (by simpa using he) (List.nodup_append.1 nod').1
      (Z.left _ (x::qr.elems) (by simpa using hg)) bl bq1 (by omega)
     have hu:=(see2_upd (O:=O) m l.root a).to i5 (S:=l.refs++b::ql.refs) (k:=30*(l.h+ql.h)+6) (fun s hs=>by simpa using hs) (by omega)
     have hr':t'.refs=l.refs++b::ql.refs:=by rw[Tr.refs,i1.its];simp[Tr.refs]
     have he':t'.elems=l.elems++e::ql.elems:=by rw[Tr.elems,i1.its];simp[Tr.elems]
     have dis:∀ s,s∈a::qr.refs->s∉l.refs++b::ql.refs:=fun s hs hs2=>(List.nodup_append.1 nod').2.2 s hs2 s hs rfl
     refine⟨d,?_⟩;rw[i1.root];obtain⟨u,u1,u2,u3,u4,u5⟩:=level_tr Z (m:=(link O k (see (see m l.root) a) l.root b ql.root).2) (link_ok.2 (see_ok.2 (see_ok.2 ho))) (r:=a) (l:=t') (q:=qr)
      (v:=⟨x,t'.root,qr.root,⟨(Tr.node a ql x qr).items.length,S (Tr.node a ql x qr).elems⟩,((Tr.node a ql x qr).h:Nat)⟩) i1.rp (Rp.frame hu (fun s hs=>dis s (by simp[hs])) hq4) (by rw[hu.has];exact hq1)
      (by rw[hr'];exact nod') rfl rfl (by rw[he'];simpa using hg) i1.bal bq2 (by omega) (by omega)
     simp only[Tr.h] at u4 u5 ⊢;refine⟨u,⟨u1.root,u1.rp,by rw[u1.its,i1.its];simp[Tr.items],u1.bal⟩,?_,?_,fun _ _=>by omega,hu.to u5 (fun s hs=>?_) (by omega)⟩
     ·rcases Nat.lt_or_ge (qr.h+1) t'.h with hx|hx
      ·omega
      ·have:=u4 hx (by omega);omega
     ·rcases Nat.lt_or_ge (qr.h+1) t'.h with hx|hx
      ·omega
      ·have:=u4 hx (by omega);omega
     ·rw[hr'] at hs;simp only[List.mem_append,List.mem_cons] at hs ⊢;rcases hs with(h|h|h)|(h|h|h)|h|h<;>simp[h]
   ·rw[if_neg c2,if_neg c2];refine⟨trivial,?_⟩;obtain⟨s1,s2⟩:=setN_tr Z (m:=see (see (see m l.root) q.root) b) (r:=b) (l:=l) (q:=q) (v:=⟨(lk O m b).e,l.root,q.root,(lk O m b).all,(lk O m b).h⟩) (see_ok.2 ho2) (((hl.see _).see _).see _) (((hq.see _).see _).see _) (by simpa using hb)
     (fun h=>nodc.2.2 b h b (Or.inl rfl) rfl) (fun h=>nodc.2.1.1 h) rfl rfl (by simpa [he] using hg)
    simp only[he] at s1 s2 ⊢;refine⟨.node b l e q,⟨rfl,s1,rfl,⟨bl,bq,by omega,by omega⟩⟩,?_,?_,?_,(see3_upd m l.root q.root b).to s2 (fun s hs=>by simp at hs;subst hs;simp) (by omega)⟩
    ·simp only[Tr.h];omega
    ·simp only[Tr.h];omega
    ·intro _ _;simp only[Tr.h];omega
theorem pickF_tr {n:Nat}:∀ (t:Tr E) {k:Nat} {m:Po E A},POk n m->Rp O S m t->t.bal->t.refs.Nodup->good t.elems->t≠.nil->t.h≤k ->
  PickFD O k m t.root/\∃ f x tl t',t.items=(f,x)::tl/\Is O S (pickF O k m t.root).2.2 (pickF O k m t.root).1 tl t'/\(pickF O k m t.root).2.1=f/\t.h≤t'.h+1/\t'.h≤t.h/\Upd (rf tl) (30*t.h) (zn O) m (pickF O k m t.root).2.2
 |.nil,k,m,_,_,_,_,_,hn,_=>absurd rfl hn
 |.node r l x q,0,m,_,_,_,_,_,_,hk=>by simp only[Tr.h] at hk;omega
 |.node r l x q,k+1,m,ho,⟨hr1,hr2,hr3,hr4⟩,⟨b1,b2,b3,b4⟩,nod,hg,_,hk=>by
  simp only[Tr.h] at hk;simp only[Tr.root];rw[PickFD,pickF,hr2,nd_node];simp only;rw[Tr.refs_node] at nod;rw[Tr.elems_node] at hg
  by_cases c:l.root=r0
  ·have hl:=nil_of_root ho hr3 c;subst hl;rw[if_pos c,if_pos c];exact⟨trivial,r,x,q.items,q,rfl,⟨rfl,hr4.see _,rfl,b2⟩,rfl,by simp only[Tr.h] at b3 b4 ⊢;omega,by simp only[Tr.h];omega,(see_upd _ _ _).mono (fun s hs=>by cases hs) (by simp only[Tr.h];omega)⟩
  ·rw[if_neg c,if_neg c];have hln:l≠.nil:=fun h=>c (by rw[h];rfl)
   obtain⟨d,f,y,tl,t',i0,i1,i2,i3,i4,i5⟩:=pickF_tr l (k:=k) (m:=see m r) (see_ok.2 ho) (hr3.see _) b1 (List.nodup_append.1 nod).1 (Z.left _ _ hg) hln (by omega)
   have hu:=(see_upd (zn O) m r).to i5 (S:=rf tl) (k:=30*l.h+1) (fun s hs=>by simpa using hs) (by omega)
   have hlr:l.refs=f::rf tl:=by rw[Tr.refs,i0];rfl
   have hle:l.elems=y::tl.map Prod.snd:=by rw[Tr.elems,i0];rfl
   rw[hlr] at nod;rw[hle] at hg;have nod':(rf tl++r::q.refs).Nodup:=(List.nodup_cons.1 nod).2;have hr':t'.refs=rf tl:=by rw[Tr.refs,i1.its]
   have he':t'.elems=tl.map Prod.snd:=by rw[Tr.elems,i1.its]
   have dis:∀ s,s∈r::q.refs->s∉rf tl:=fun s hs hs2=>(List.nodup_append.1 nod').2.2 s hs2 s hs rfl
   rw[i1.root];obtain⟨u,u1,u2,u3,u4,u5⟩:=level_tr Z (m:=(pickF O k (see m r) l.root).2.2) (pickF_ok.2 (see_ok.2 ho)) (r:=r) (l:=t') (q:=q)
    (v:=⟨x,t'.root,q.root,⟨(Tr.node r l x q).items.length,S (Tr.node r l x q).elems⟩,((Tr.node r l x q).h:Nat)⟩) i1.rp (Rp.frame hu (fun s hs=>dis s (by simp[hs])) hr4) (by rw[hu.has];exact hr1)
    (by rw[hr'];exact nod') rfl rfl (by rw[he'];exact Z.right [y] _ hg) i1.bal b2 (by omega) (by omega)
   refine⟨d,f,y,tl++(r,x)::q.items,u,by rw[Tr.items_node,i0];rfl,⟨u1.root,u1.rp,by rw[u1.its,i1.its],u1.bal⟩,i2,?_,?_,hu.to u5 (fun s hs=>?_) (by simp only[Tr.h];omega)⟩
   ·simp only[Tr.h];rcases Nat.lt_or_ge (t'.h+1) q.h with hx|hx
    ·omega
    ·have:=u4 (by omega) hx;omega
   ·simp only[Tr.h];rcases Nat.lt_or_ge (t'.h+1) q.h with hx|hx
    ·omega
    ·have:=u4 (by omega) hx;omega
   ·rw[hr'] at hs;simp only[List.mem_append,List.mem_cons,List.map_append,List.map_cons,rf] at hs ⊢;rcases hs with h|h|h|h
    ·exact .inl h
    ·exact .inl h
    ·exact .inr (.inl h)
    ·exact .inr (.inr h)
theorem glue_tr {n K:Nat} {l q:Tr E} {m:Po E A} (ho:POk n m) (hl:Rp O S m l) (hq:Rp O S m q) (nod:(l.refs++q.refs).Nodup) (hg:good (l.elems++q.elems)) (bl:l.bal) (bq:q.bal) (hk:l.h+q.h<K) :
  GlueD O K m l.root q.root/\∃ t,Is O S (glue O K m l.root q.root).2 (glue O K m l.root q.root).1 (l.items++q.items) t/\(l.h≤q.h+1->q.h≤l.h+1->max l.h q.h≤t.h)/\t.h≤max l.h q.h+1 /\
   Upd (l.refs++q.refs) (30*(l.h+q.h+q.h)+4) (zn O) m (glue O K m l.root q.root).2:=by
 unfold GlueD glue
 by_cases c:q.root=r0
 ·have hqn:=nil_of_root ho hq c;subst hqn;rw[if_pos c,if_pos c];exact⟨trivial,l,⟨rfl,hl,by simp[Tr.items],bl⟩,fun _ _=>by simp only[Tr.h];omega,by simp only[Tr.h];omega,Upd.refl _ _ _ _⟩
 ·rw[if_neg c,if_neg c];have hqn:q≠.nil:=fun h=>c (by rw[h];rfl)
  obtain⟨d,f,x,tl,t',i0,i1,i2,i3,i4,i5⟩:=pickF_tr Z q (k:=K) (m:=m) ho hq bq (List.nodup_append.1 nod).2.1 (Z.right _ _ hg) hqn (by omega)
  have hqr:q.refs=f::rf tl:=by rw[Tr.refs,i0];rfl
  have hqe:q.elems=x::tl.map Prod.snd:=by rw[Tr.elems,i0];rfl
  have hf:has m f=true:=hq.has f (by rw[hqr];simp)
  have hfe:(lk O m f).e=x:=hq.elem (f,x) (by rw[i0];simp)
  rw[hqr] at nod ⊢;rw[hqe] at hg;have hr':t'.refs=rf tl:=by rw[Tr.refs,i1.its]
  have he':t'.elems=tl.map Prod.snd:=by rw[Tr.elems,i1.its]
  have hnf:f∉rf tl:=(List.nodup_cons.1 (List.nodup_append.1 nod).2.1).1;have dis:∀ s,s∈l.refs->s∉rf tl:=fun s hs hs2=>(List.nodup_append.1 nod).2.2 s hs s (by simp[hs2]) rfl
  rw[i1.root,i2];obtain⟨d2,u,u1,u2,u3,u4,u5⟩:=link_tr Z K l t' (m:=(pickF O K m q.root).2.2) (b:=f) (e:=x) (pickF_ok.2 ho) (Rp.frame i5 dis hl) i1.rp (by rw[i5.has];exact hf) (by rw[show lk O (pickF O K m q.root).2.2 f=lk O m f from i5.look f hnf];exact hfe)
   (by rw[hr'];exact nod) (by rw[he'];exact hg) bl i1.bal (by omega)
  refine⟨⟨d,d2⟩,u,⟨u1.root,u1.rp,by rw[u1.its,i1.its,i0],u1.bal⟩,fun h1 h2=>?_,by omega,i5.to u5 (fun s hs=>?_) (by omega)⟩
  ·rcases Nat.lt_or_ge (t'.h) q.h with hx|hx
   ·rcases Nat.lt_or_ge l.h q.h with hy|hy
    ·have:=u4 (by omega) (by omega);omega
    ·omega
   ·omega
  ·rw[hr'] at hs;rcases hs with h|h
   ·simp[h]
   ·exact h
end
end Gv
namespace Gv
open Rx
set_option linter.unusedSectionVars false
section
variable {E A:Type} {O:Ops E A} {S:List E->A} {good:List E->Prop} (Z:Laws O S good)
theorem rf_lo_hi (e:E) (l:List (Ref×E)):List.map Prod.fst (lo O e l)++List.map Prod.fst (hi O e l)=List.map Prod.fst l:=by conv=>rhs;rw[← lo_hi O e l];simp
include Z
theorem replace_tr {n:Nat} {e:E}:∀ (t:Tr E) {k:Nat} {m:Po E A},POk n m->Rp O S m t->t.bal->Srt O t.items->t.refs.Nodup->(∀ x,hit O e t.items=some x->gd good (lo O e t.items++(x.1,e)::(hi O e t.items).tail))->t.h<k ->
  match hit O e t.items with
  |none=>(replace O k m t.root e).1=false/\Upd [] (2*t.h+1) (zn O) m (replace O k m t.root e).2
  |some x=>(replace O k m t.root e).1=true/\∃ t',Is O S (replace O k m t.root e).2 t.root (lo O e t.items++(x.1,e)::(hi O e t.items).tail) t'/\t'.h=t.h/\Upd t.refs (6*t.h+1) (zn O) m (replace O k m t.root e).2
 |t,0,m,_,_,_,_,_,_,hk=>by omega
 |.nil,k+1,m,ho,hr,hb,hs,hn,hg,hk=>by
  have h0:(lk O m (Tr.nil (E:=E)).root).h=0:=by rw[(show Rp O S m .nil from trivial).root ho];rfl
  rw[replace,if_pos h0];exact⟨rfl,(see_upd _ _ _).mono (fun s hs=>hs) (by omega)⟩
 |.node r l x q,k+1,m,ho,⟨hr1,hr2,hr3,hr4⟩,⟨b1,b2,b3,b4⟩,hs,hn,hg,hk=>by
  have h0:¬ (lk O m r).h=0:=by rw[hr2,nd_h];simp only[Tr.h];omega
  simp only[Tr.root_node];rw[Tr.items_node] at hs hg ⊢;rw[Tr.refs_node] at hn ⊢;rw[replace,if_neg h0,hr2,nd_node];simp only[Tr.h] at hk ⊢;have nodc:=hn;simp only[List.nodup_append,List.nodup_cons,List.mem_append,List.mem_cons,not_or] at nodc
  by_cases hc:O.cmp e x<0
  ·rw[if_pos hc];obtain⟨e1,e2⟩:=lo_lt (l:=l.items) (q:=q.items) (r:=r) hc;rw[e1,e2,hit_lt hc] at hg;rw[e1,e2,hit_lt hc];have ih:=replace_tr l (k:=k) (m:=see m r) (see_ok.2 ho) (hr3.see _) b1 hs.left (List.nodup_append.1 hn).1 (fun y hy=>Z.left _ (x::q.elems) (by
    have:=hg y hy;rw[(hit_some hy).1] at this
    simpa [gd,Tr.elems] using this)) (by omega)
   cases hh:hit O e l.items with
   |none =>
    rw[hh] at ih;obtain⟨i1,i2⟩:=ih;rw[if_neg (by rw[i1];simp)]
    exact⟨i1,(see_upd _ m r).to i2 (fun s hs=>by simp at hs) (by omega)⟩
   |some y =>
    rw[hh] at ih;obtain⟨i1,t',i2,i3,i4⟩:=ih;rw[if_pos i1];refine⟨rfl,?_⟩;have hgy:=hg y hh;have hy:=(hit_some hh).1;have hu:=(see_upd (zn O) m r).to i4 (S:=l.refs) (k:=6*l.h+2) (fun s hs=>by simpa using hs) (by omega)
    have hr':t'.refs=l.refs:=by rw[Tr.refs,i2.its,Tr.refs,← rf_lo_hi e l.items,hy];simp
    have he':t'.elems=(lo O e l.items).map Prod.snd++e::((hi O e l.items).tail).map Prod.snd:=by rw[Tr.elems,i2.its];simp
    have hroot:t'.root=l.root:=i2.root.symm;obtain⟨p1,p2⟩:=tie_tr Z (m:=(replace O k (see m r) l.root e).2) (replace_ok.2 (see_ok.2 ho)) (r:=r) (l:=t') (q:=q) (v:=⟨x,l.root,q.root,⟨(Tr.node r l x q).items.length,S (Tr.node r l x q).elems⟩,((Tr.node r l x q).h:Nat)⟩) i2.rp
     (Rp.frame hu (fun s hs hs2=>nodc.2.2 s hs2 s (Or.inr hs) rfl) hr4) (by rw[hu.has];exact hr1) (by rw[hr'];exact fun h=>nodc.2.2 r h r (Or.inl rfl) rfl) (fun h=>nodc.2.1.1 h) hroot.symm rfl
     (by rw[he'];rw[hy] at hgy;simpa [gd,Tr.elems] using hgy)
    refine⟨.node r t' x q,⟨rfl,p1,?_,⟨i2.bal,b2,by omega,by omega⟩⟩,by simp only[Tr.h];omega,hu.to p2 (fun s hs=>by simp at hs;rcases hs with h|h<;>simp[h]) (by omega)⟩
    rw[Tr.items_node,i2.its,hy];simp
  ·rw[if_neg hc]
   by_cases hc2:0<O.cmp e x
   ·rw[if_pos hc2];obtain⟨e1,e2⟩:=lo_gt Z hs hc2;rw[e1,e2,hit_gt Z hs hc2] at hg;rw[e1,e2,hit_gt Z hs hc2];have hsq:Srt O q.items:=(List.pairwise_cons.1 hs.right).2;have ih:=replace_tr q (k:=k) (m:=see m r) (see_ok.2 ho) (hr4.see _) b2 hsq (List.nodup_cons.1 (List.nodup_append.1 hn).2.1).2 (fun y hy=>Z.right (l.elems++[x]) _ (by
     have:=hg y hy
     simpa [gd,Tr.elems] using this)) (by omega)
    cases hh:hit O e q.items with
    |none =>
     rw[hh] at ih;obtain⟨i1,i2⟩:=ih;rw[if_neg (by rw[i1];simp)]
     exact⟨i1,(see_upd _ m r).to i2 (fun s hs=>by simp at hs) (by omega)⟩
    |some y =>
     rw[hh] at ih;obtain⟨i1,t',i2,i3,i4⟩:=ih;rw[if_pos i1];refine⟨rfl,?_⟩;have hgy:=hg y hh;have hy:=(hit_some hh).1;have hu:=(see_upd (zn O) m r).to i4 (S:=q.refs) (k:=6*q.h+2) (fun s hs=>by simpa using hs) (by omega)
     have hr':t'.refs=q.refs:=by rw[Tr.refs,i2.its,Tr.refs,← rf_lo_hi e q.items,hy];simp
     have he':t'.elems=(lo O e q.items).map Prod.snd++e::((hi O e q.items).tail).map Prod.snd:=by rw[Tr.elems,i2.its];simp
     have hroot:t'.root=q.root:=i2.root.symm;obtain⟨p1,p2⟩:=tie_tr Z (m:=(replace O k (see m r) q.root e).2) (replace_ok.2 (see_ok.2 ho)) (r:=r) (l:=l) (q:=t') (v:=⟨x,l.root,q.root,⟨(Tr.node r l x q).items.length,S (Tr.node r l x q).elems⟩,((Tr.node r l x q).h:Nat)⟩)
      (Rp.frame hu (fun s hs hs2=>nodc.2.2 s hs s (Or.inr hs2) rfl) hr3) i2.rp (by rw[hu.has];exact hr1) (fun h=>nodc.2.2 r h r (Or.inl rfl) rfl) (by rw[hr'];exact fun h=>nodc.2.1.1 h) rfl hroot.symm
      (by rw[he'];simpa [gd,Tr.elems] using hgy)
     refine⟨.node r l x t',⟨rfl,p1,?_,⟨b1,i2.bal,by omega,by omega⟩⟩,by simp only[Tr.h];omega,hu.to p2 (fun s hs=>by simp at hs;rcases hs with h|h<;>simp[h]) (by omega)⟩
     rw[Tr.items_node,i2.its];simp
   ·rw[if_neg hc2];have hc3:O.cmp e x=0:=by omega
    obtain⟨e1,e2⟩:=lo_eq Z hs hc3;rw[e1,e2,hit_eq Z hs hc3] at hg;rw[e1,e2,hit_eq Z hs hc3];have hgy:=hg _ rfl;simp only[List.tail_cons] at hgy ⊢;obtain⟨p1,p2⟩:=tie_tr Z (m:=see m r) (see_ok.2 ho) (r:=r) (l:=l) (q:=q) (v:=⟨e,l.root,q.root,⟨(Tr.node r l x q).items.length,S (Tr.node r l x q).elems⟩,((Tr.node r l x q).h:Nat)⟩)
     (hr3.see _) (hr4.see _) (by simpa using hr1) (fun h=>nodc.2.2 r h r (Or.inl rfl) rfl) (fun h=>nodc.2.1.1 h) rfl rfl (by simpa [gd,Tr.elems] using hgy)
    exact⟨by simp,.node r l e q,⟨rfl,p1,rfl,⟨b1,b2,b3,b4⟩⟩,by simp only[Tr.h],(see_upd _ m r).to p2 (fun s hs=>by simp at hs;simp[hs]) (by omega)⟩
theorem pick_tr {n K:Nat} {e:E}:∀ (t:Tr E) {k:Nat} {m:Po E A},POk n m->Rp O S m t->t.bal->Srt O t.items->t.refs.Nodup->gd good (lo O e t.items++(hi O e t.items).tail)->t.h<k->2*t.h<K ->
  PickD O K k m t.root e/\match hit O e t.items with
  |none=>(pick O K k m t.root e).2.1=r0/\(pick O K k m t.root e).1=t.root/\Upd [] (2*t.h+1) (zn O) m (pick O K k m t.root e).2.2
  |some x=>(pick O K k m t.root e).2.1=x.1/\∃ t',Is O S (pick O K k m t.root e).2.2 (pick O K k m t.root e).1 (lo O e t.items++(hi O e t.items).tail) t'/\t.h≤t'.h+1/\t'.h≤t.h /\
   Upd (rf (lo O e t.items++(hi O e t.items).tail)) (120*t.h+4) (zn O) m (pick O K k m t.root e).2.2
 |t,0,m,_,_,_,_,_,_,hk,_=>by omega
 |.nil,k+1,m,ho,hr,hb,hs,hn,hg,hk,hK=>by
  have h0:(lk O m (Tr.nil (E:=E)).root).h=0:=by rw[(show Rp O S m .nil from trivial).root ho];rfl
  rw[PickD,pick,if_pos h0,if_pos h0];exact⟨trivial,rfl,rfl,(see_upd _ _ _).mono (fun s hs=>hs) (by omega)⟩
 |.node r l x q,k+1,m,ho,⟨hr1,hr2,hr3,hr4⟩,⟨b1,b2,b3,b4⟩,hs,hn,hg,hk,hK=>by
  have h0:¬ (lk O m r).h=0:=by rw[hr2,nd_h];simp only[Tr.h];omega
  simp only[Tr.root_node];rw[Tr.items_node] at hs hg ⊢;rw[Tr.refs_node] at hn;rw[PickD,pick,if_neg h0,if_neg h0,hr2,nd_node];simp only[Tr.h] at hk hK ⊢;have nodc:=hn;simp only[List.nodup_append,List.nodup_cons,List.mem_append,List.mem_cons,not_or] at nodc
  by_cases hc:O.cmp e x<0
  ·rw[if_pos hc,if_pos hc];obtain⟨e1,e2⟩:=lo_lt (l:=l.items) (q:=q.items) (r:=r) hc;rw[e1,e2] at hg;rw[e1,e2,hit_lt hc];cases hh:hit O e l.items with
   |none =>
    have hgl:gd good (lo O e l.items++(hi O e l.items).tail):=by
     cases hhi:hi O e l.items with
     |nil =>
      rw[hhi] at hg;simp only[List.tail_nil,List.append_nil,List.nil_append] at hg ⊢;exact Z.left _ (q.elems) (by simpa [gd,Tr.elems] using hg)
     |cons y tl =>
      rw[hhi] at hg;simp only[List.tail_cons,List.cons_append] at hg ⊢;exact Z.left _ (x::q.elems) (by simpa [gd,Tr.elems] using hg)
    have ih:=pick_tr (K:=K) l (k:=k) (m:=see m r) (see_ok.2 ho) (hr3.see _) b1 hs.left (List.nodup_append.1 hn).1 hgl (by omega) (by omega)
    rw[hh] at ih;obtain⟨d,i1,i2,i3⟩:=ih;rw[if_pos i1];exact⟨d,i1,rfl,(see_upd _ m r).to i3 (fun s hs=>by simp at hs) (by omega)⟩
   |some y =>
    have hy:=(hit_some hh).1;rw[hy] at hg;simp only[List.cons_append,List.tail_cons] at hg;have ih:=pick_tr (K:=K) l (k:=k) (m:=see m r) (see_ok.2 ho) (hr3.see _) b1 hs.left (List.nodup_append.1 hn).1 (Z.left _ (x::q.elems) (by simpa [gd,Tr.elems] using hg)) (by omega) (by omega)
    rw[hh] at ih;obtain⟨d,i1,t',i2,i3,i4,i5⟩:=ih;have hyr:y.1∈l.refs:=List.mem_map.2 ⟨y,(hit_some hh).2.2,rfl⟩;have hyn:y.1≠r0:=fun hc0=>by
     have:=hr3.has _ hyr;rw[hc0,ho.z0] at this;cases this
    rw[if_neg (by rw[i1];exact hyn)]
    have hsub:∀ s,s∈rf (lo O e l.items++(hi O e l.items).tail)->s∈l.refs:=fun s hs=>by
     rw[Tr.refs,← rf_lo_hi e l.items,hy];simp only[rf,List.map_append,List.mem_append,List.map_cons,List.mem_cons] at hs ⊢;rcases hs with h|h
     ·exact .inl h
     ·exact .inr (.inr h)
    have hu:=(see_upd (zn O) m r).to i5 (S:=rf (lo O e l.items++(hi O e l.items).tail)) (k:=120*l.h+5) (fun s hs=>by simpa using hs) (by omega)
    have hr':t'.refs=rf (lo O e l.items++(hi O e l.items).tail):=by rw[Tr.refs,i2.its]
    have he':t'.elems=(lo O e l.items++(hi O e l.items).tail).map Prod.snd:=by rw[Tr.elems,i2.its]
    have hsl:(rf (lo O e l.items++(hi O e l.items).tail)).Sublist l.refs:=by
     rw[Tr.refs,← rf_lo_hi e l.items]
     conv=>rhs;rw[hy]
     simp only[rf,List.map_append,List.map_cons];exact List.Sublist.append_left (List.sublist_cons_self _ _) _
    rw[i2.root];obtain⟨u,u1,u2,u3,u4,u5⟩:=level_tr Z (m:=(pick O K k (see m r) l.root e).2.2) (pick_ok.2 (see_ok.2 ho)) (r:=r) (l:=t') (q:=q)
     (v:=⟨x,t'.root,q.root,⟨(Tr.node r l x q).items.length,S (Tr.node r l x q).elems⟩,((Tr.node r l x q).h:Nat)⟩) i2.rp (Rp.frame hu (fun s hs hs2=>nodc.2.2 s (hsub s hs2) s (Or.inr hs) rfl) hr4)
     (by rw[hu.has];exact hr1) (by rw[hr'];exact(List.Sublist.append_right hsl _).nodup hn) rfl rfl (by rw[he'];simpa [gd,Tr.elems] using hg) i2.bal b2 (by omega) (by omega)
    refine⟨d,i1,u,⟨u1.root,u1.rp,by rw[u1.its,i2.its,hy];simp,u1.bal⟩,?_,?_,hu.to u5 (fun s hs=>?_) (by omega)⟩
    ·rcases Nat.lt_or_ge (t'.h+1) q.h with hx|hx
     ·omega
     ·have:=u4 (by omega) hx;omega
    ·rcases Nat.lt_or_ge (t'.h+1) q.h with hx|hx
     ·omega
     ·have:=u4 (by omega) hx;omega
    ·rw[hr'] at hs;rw[hy];simp only[rf,List.map_append,List.mem_append,List.map_cons,List.mem_cons,List.cons_append,List.tail_cons,Tr.refs] at hs ⊢;rcases hs with(h|h)|(h|h)|h|h<;>(first|simp[h];done|exact Or.inl h|exact Or.inr h|exact Or.inl (Or.inl h)|exact Or.inl (Or.inr h)|exact Or.inr (Or.inl h)|exact Or.inr (Or.inr h)|exact Or.inl (Or.inr (Or.inl h))|exact Or.inl (Or.inr (Or.inr h))|exact Or.inr (Or.inr (Or.inl h))|exact Or.inr (Or.inr (Or.inr h)))
  ·rw[if_neg hc,if_neg hc]
   by_cases hc2:0<O.cmp e x
   ·rw[if_pos hc2,if_pos hc2];obtain⟨e1,e2⟩:=lo_gt Z hs hc2;rw[e1,e2] at hg;rw[e1,e2,hit_gt Z hs hc2];have hsq:Srt O q.items:=(List.pairwise_cons.1 hs.right).2;have hgq:gd good (lo O e q.items++(hi O e q.items).tail):=Z.right (l.elems++[x]) _ (by simpa [gd,Tr.elems] using hg)
    have ih:=pick_tr (K:=K) q (k:=k) (m:=see m r) (see_ok.2 ho) (hr4.see _) b2 hsq (List.nodup_cons.1 (List.nodup_append.1 hn).2.1).2 hgq (by omega) (by omega)
    cases hh:hit O e q.items with
    |none =>
     rw[hh] at ih;obtain⟨d,i1,i2,i3⟩:=ih;rw[if_pos i1];exact⟨d,i1,rfl,(see_upd _ m r).to i3 (fun s hs=>by simp at hs) (by omega)⟩
    |some y =>
     have hy:=(hit_some hh).1;rw[hh] at ih;obtain⟨d,i1,t',i2,i3,i4,i5⟩:=ih;have hyr:y.1∈q.refs:=List.mem_map.2 ⟨y,(hit_some hh).2.2,rfl⟩;have hyn:y.1≠r0:=fun hc0=>by
      have:=hr4.has _ hyr;rw[hc0,ho.z0] at this;cases this
     rw[if_neg (by rw[i1];exact hyn)]
     have hsl:(rf (lo O e q.items++(hi O e q.items).tail)).Sublist q.refs:=by
      rw[Tr.refs,← rf_lo_hi e q.items]
      conv=>rhs;rw[hy]
      simp only[rf,List.map_append,List.map_cons];exact List.Sublist.append_left (List.sublist_cons_self _ _) _
     have hu:=(see_upd (zn O) m r).to i5 (S:=rf (lo O e q.items++(hi O e q.items).tail)) (k:=120*q.h+5) (fun s hs=>by simpa using hs) (by omega)
     have hr':t'.refs=rf (lo O e q.items++(hi O e q.items).tail):=by rw[Tr.refs,i2.its]
     have he':t'.elems=(lo O e q.items++(hi O e q.items).tail).map Prod.snd:=by rw[Tr.elems,i2.its]
     rw[i2.root];obtain⟨u,u1,u2,u3,u4,u5⟩:=level_tr Z (m:=(pick O K k (see m r) q.root e).2.2) (pick_ok.2 (see_ok.2 ho)) (r:=r) (l:=l) (q:=t')
      (v:=⟨x,l.root,t'.root,⟨(Tr.node r l x q).items.length,S (Tr.node r l x q).elems⟩,((Tr.node r l x q).h:Nat)⟩) (Rp.frame hu (fun s hs hs2=>nodc.2.2 s hs s (Or.inr (hsl.subset hs2)) rfl) hr3) i2.rp
      (by rw[hu.has];exact hr1) (by rw[hr'];exact(List.Sublist.append_left (List.Sublist.cons_cons r hsl) _).nodup hn) rfl rfl (by rw[he'];simpa [gd,Tr.elems] using hg) b1 i2.bal (by omega) (by omega)
     refine⟨d,i1,u,⟨u1.root,u1.rp,by rw[u1.its,i2.its];simp,u1.bal⟩,?_,?_,hu.to u5 (fun s hs=>?_) (by omega)⟩
     ·rcases Nat.lt_or_ge (l.h) (t'.h+1) with hx|hx
      ·have:=u4 (by omega) (by omega);omega
      ·rcases Nat.lt_or_ge (t'.h+1) l.h with hx2|hx2
       ·omega
       ·have:=u4 (by omega) (by omega);omega
     ·rcases Nat.lt_or_ge (t'.h+1) l.h with hx2|hx2
      ·omega
      ·have:=u4 (by omega) (by omega);omega
     ·rw[hr'] at hs;simp only[rf,List.map_append,List.mem_append,List.map_cons,List.mem_cons,Tr.refs] at hs ⊢;rcases hs with(h|h)|h|h|h|h<;>(first|simp[h];done|exact Or.inl h|exact Or.inr h|exact Or.inl (Or.inl h)|exact Or.inl (Or.inr h)|exact Or.inr (Or.inl h)|exact Or.inr (Or.inr h)|exact Or.inl (Or.inr (Or.inl h))|exact Or.inl (Or.inr (Or.inr h))|exact Or.inr (Or.inr (Or.inl h))|exact Or.inr (Or.inr (Or.inr h)))
   ·rw[if_neg hc2,if_neg hc2];have hc3:O.cmp e x=0:=by omega
    obtain⟨e1,e2⟩:=lo_eq Z hs hc3;rw[e1,e2] at hg;rw[e1,e2,hit_eq Z hs hc3];simp only[List.tail_cons] at hg ⊢;obtain⟨d,u,u1,u2,u3,u4⟩:=glue_tr Z (K:=K) (m:=see m r) (see_ok.2 ho) (hr3.see _) (hr4.see _) (List.Sublist.nodup (List.Sublist.append_left (List.sublist_cons_self r _) _) hn) (by simpa [gd,Tr.elems] using hg) b1 b2 (by omega)
    refine⟨d,by simp,u,u1,by have:=u2 b3 b4;omega,by omega,(see_upd _ m r).to u4 (fun s hs=>?_) (by omega)⟩
    simp only[rf,List.map_append,List.mem_append,Tr.refs] at hs ⊢;rcases hs with h|h|h<;>simp_all
end
end Gv
namespace Gv
open Rx
section
variable {E A:Type} (O:Ops E A)
def BetE:Nat->Po E A->Node E A->Int->Int->Prop
 |0,_,_,_,_=>False
 |k+1,m,n,from_,to =>
  ¬ mx from_ 0≥mn to n.all.n->¬ (mx from_ 0=0/\mn to n.all.n=n.all.n) ->
   BetE k (see m n.l) (lk O m n.l) (mx from_ 0) (mn to n.all.n) /\
   (¬ mn to n.all.n≤W ((lk O m n.l).all.n+1) ->
    BetE k (see (between O k (see m n.l) (lk O m n.l) (mx from_ 0) (mn to n.all.n)).2 n.r) (lk O (between O k (see m n.l) (lk O m n.l) (mx from_ 0) (mn to n.all.n)).2 n.r)
     (W (W (mx from_ 0-(lk O m n.l).all.n)-1)) (W (W (mn to n.all.n-(lk O m n.l).all.n)-1)))
def FindE:Nat->Po E A->Node E A->E->Prop
 |0,_,_,_=>False
 |k+1,m,n,e=>n.h>0->O.cmp e n.e≠0->(O.cmp e n.e<0->FindE k (see m n.l) (lk O m n.l) e)/\(¬ O.cmp e n.e<0->FindE k (see m n.r) (lk O m n.r) e)
def RankE:Nat->Po E A->Node E A->E->Int->Prop
 |0,_,_,_,_=>False
 |k+1,m,n,e,c=>n.h>0->(O.cmp e n.e≤0->RankE k (see m n.l) (lk O m n.l) e c)/\(¬ O.cmp e n.e≤0->RankE k (see m n.r) (lk O m n.r) e (W (c+W (n.all.n-(lk O m n.r).all.n))))
def NthE:Nat->Po E A->Node E A->Int->Prop
 |0,_,_,_=>False
 |k+1,m,n,i=>i≠(lk O m n.l).all.n->(i<(lk O m n.l).all.n->NthE k (see m n.l) (lk O m n.l) i) /\
  (¬ i<(lk O m n.l).all.n->NthE k (see (see m n.l) n.r) (lk O (see m n.l) n.r) (W (i-W ((lk O m n.l).all.n+1))))
theorem DeepN_of {O:Ops E A}:∀ {k:Nat} {m m':Po E A} {r:Ref},Deep O k m r->(∀ s,lk O m' s=lk O m s)->DeepN O k m' (lk O m r)
 |0,_,_,_,h,_=>h
 |k+1,m,m',r,h,hl=>by
  rcases h with h|h
  ·exact .inl h
  ·exact .inr ⟨(Deep_of hl).2 h.1,(Deep_of hl).2 h.2⟩
end
end Gv
namespace Gv
open Rx
section
variable {E A:Type} (O:Ops E A)
def fresh (e:E):Node E A:=⟨e,r0,r0,one O e,1⟩
def putF (K:Nat) (m:Po E A) (root:Ref) (e:E):Bool×Ref×Po E A :=
 if(replace O K m root e).1=true then(true,root,(replace O K m root e).2)
 else if(replace O K m root e).2.held=(replace O K m root e).2.cap then(false,root,put (zn O) (replace O K m root e).2 (fresh O e))
 else(true,(hang O K (put (zn O) (replace O K m root e).2 (fresh O e)) root (putR (zn O) (replace O K m root e).2) e).1,(hang O K (put (zn O) (replace O K m root e).2 (fresh O e)) root (putR (zn O) (replace O K m root e).2) e).2)
def PutD (K:Nat) (m:Po E A) (root:Ref) (e:E):Prop :=
 Deep O K m root/\((replace O K m root e).2.held≠(replace O K m root e).2.cap->POk 100000 (put (zn O) (replace O K m root e).2 (fresh O e))/\Deep O K (put (zn O) (replace O K m root e).2 (fresh O e)) root)
def atF (K:Nat) (m:Po E A) (root:Ref) (i:Int):(E×Bool)×Po E A :=
 if i<0∨i≥(lk O m root).all.n then((O.e0,false),see m root)
 else(((nthF O K (see m root) (lk O m root) i).1,true),(nthF O K (see m root) (lk O m root) i).2)
def AtD (K:Nat) (m:Po E A) (root:Ref) (i:Int):Prop:=¬ i<0->¬ i≥(lk O m root).all.n->NthE O K (see m root) (lk O m root) i
def dropF (K:Nat) (m:Po E A) (root:Ref) (e:E):E×Bool×Ref×Po E A :=
 ((lk O (pick O K K m root e).2.2 (pick O K K m root e).2.1).e,has (pick O K K m root e).2.2 (pick O K K m root e).2.1,(pick O K K m root e).1,drop (zn O) (pick O K K m root e).2.2 (pick O K K m root e).2.1)
end
end Gv
namespace Gv
open Rx
set_option linter.unusedSectionVars false
set_option maxHeartbeats 4000000
section
variable {E A:Type} {O:Ops E A} {S:List E->A} {good:List E->Prop} (Z:Laws O S good)
theorem gather_tr {n:Nat}:∀ (t:Tr E) {k:Nat} {m:Po E A},POk n m->Rp O S m t->t.h<k->(gather O k m t.root).1=t.elems/\∃ kk,Upd [] kk (zn O) m (gather O k m t.root).2
 |t,0,m,_,_,hk=>by omega
 |.nil,k+1,m,ho,hr,hk=>by
  have h0:(lk O m (Tr.nil (E:=E)).root).h=0:=by rw[(show Rp O S m .nil from trivial).root ho];rfl
  rw[gather,if_pos h0];exact⟨rfl,_,see_upd _ _ _⟩
 |.node r l x q,k+1,m,ho,⟨hr1,hr2,hr3,hr4⟩,hk=>by
  have h0:¬ (lk O m r).h=0:=by rw[hr2,nd_h];simp only[Tr.h];omega
  simp only[Tr.root_node];simp only[Tr.h] at hk;rw[gather,if_neg h0,hr2,nd_node];obtain⟨i1,k1,i2⟩:=gather_tr l (k:=k) (m:=see m r) (see_ok.2 ho) (hr3.see _) (by omega)
  have hu:=(see_upd (zn O) m r).to i2 (S:=[]) (fun s hs=>by simp at hs) (Nat.le_refl _)
  obtain⟨j1,k2,j2⟩:=gather_tr q (k:=k) (m:=(gather O k (see m r) l.root).2) (gather_ok.2 (see_ok.2 ho)) (Rp.frame hu (fun s _ hs=>by cases hs) hr4) (by omega)
  exact⟨by rw[i1,j1,Tr.elems_node],_,hu.to j2 (fun s hs=>by simp at hs) (Nat.le_refl _)⟩
include Z
theorem cut_tr {n K:Nat} {e:E}:∀ (t:Tr E) {k:Nat} {m:Po E A},POk n m->Rp O S m t->t.bal->Srt O t.items->t.refs.Nodup->good t.elems->t.h<k->2*t.items.length<K ->
  CutD O K k m t.root e/\∃ a b,Is O S (cutF O K k m t.root e).2.2 (cutF O K k m t.root e).1 (lo O e t.items) a/\Is O S (cutF O K k m t.root e).2.2 (cutF O K k m t.root e).2.1 (hi O e t.items) b /\
   ∃ kk,Upd t.refs kk (zn O) m (cutF O K k m t.root e).2.2
 |t,0,m,_,_,_,_,_,_,hk,_=>by omega
 |.nil,k+1,m,ho,hr,hb,hs,hn,hg,hk,hK=>by
  have h0:(lk O m (Tr.nil (E:=E)).root).h=0:=by rw[(show Rp O S m .nil from trivial).root ho];rfl
  rw[CutD,cutF,if_pos h0,if_pos h0];exact⟨trivial,.nil,.nil,⟨rfl,trivial,rfl,trivial⟩,⟨rfl,trivial,rfl,trivial⟩,_,(see_upd _ _ _).mono (fun s hs=>by cases hs) (Nat.le_refl _)⟩
 |.node r l x q,k+1,m,ho,⟨hr1,hr2,hr3,hr4⟩,⟨b1,b2,b3,b4⟩,hs,hn,hg,hk,hK=>by
  have h0:¬ (lk O m r).h=0:=by rw[hr2,nd_h];simp only[Tr.h];omega
  simp only[Tr.root_node];rw[Tr.items_node] at hs hK ⊢;rw[Tr.refs_node] at hn ⊢;rw[Tr.elems_node] at hg;simp only[List.length_append,List.length_cons] at hK;rw[CutD,cutF,if_neg h0,if_neg h0,hr2,nd_node];simp only[Tr.h] at hk ⊢;have nodc:=hn;simp only[List.nodup_append,List.nodup_cons,List.mem_append,List.mem_cons,not_or] at nodc;have hl1:=l.h_le;have hq1:=q.h_le
  by_cases hc:O.cmp x e<0
  ·rw[if_pos hc,if_pos hc];have hc2:0<O.cmp e x:=(Z.swap _ _).1 hc;obtain⟨e1,e2⟩:=lo_gt Z hs hc2;rw[e1,e2];have hsq:Srt O q.items:=(List.pairwise_cons.1 hs.right).2;obtain⟨d,a,b,i1,i2,kk,i3⟩:=cut_tr (K:=K) q (k:=k) (m:=see m r) (see_ok.2 ho) (hr4.see _) b2 hsq (List.nodup_cons.1 (List.nodup_append.1 hn).2.1).2 (Z.right (l.elems++[x]) _ (by simpa using hg)) (by omega) (by omega)
   have hu:=(see_upd (zn O) m r).to i3 (S:=q.refs) (fun s hs=>by simpa using hs) (Nat.le_refl _)
   have ha':a.refs=List.map Prod.fst (lo O e q.items):=by rw[Tr.refs,i1.its]
   have hb':b.refs=List.map Prod.fst (hi O e q.items):=by rw[Tr.refs,i2.its]
   have hq':q.refs=a.refs++b.refs:=by rw[ha',hb',rf_lo_hi];rfl
   have hae:q.elems=a.elems++b.elems:=by rw[Tr.elems,Tr.elems,Tr.elems,i1.its,i2.its,← List.map_append,lo_hi]
   have hah:=a.h_le;have hal:a.items.length≤q.items.length:=by
    have:=congrArg List.length (lo_hi O e q.items);rw[List.length_append] at this;rw[i1.its];omega
   rw[hq'] at hn;have hn':((l.refs++r::a.refs)++b.refs).Nodup:=by simpa using hn
   rw[hae] at hg;have hg':good (l.elems++x::a.elems):=Z.left _ b.elems (by simpa using hg)
   have hrx:(lk O (cutF O K k (see m r) q.root e).2.2 r).e=x:=by
    rw[show lk O (cutF O K k (see m r) q.root e).2.2 r=lk O m r from hu.look r (fun h=>nodc.2.1.1 h),hr2];rfl
   rw[i1.root];obtain⟨d2,u,u1,u2,u3,u4,u5⟩:=link_tr Z K l a (m:=(cutF O K k (see m r) q.root e).2.2) (b:=r) (e:=x) (cutF_ok.2 (see_ok.2 ho)) (Rp.frame hu (fun s hs hs2=>nodc.2.2 s hs s (Or.inr hs2) rfl) hr3) i1.rp
    (by rw[hu.has];exact hr1) hrx (List.nodup_append.1 hn').1 hg' b1 i1.bal (by omega)
   refine⟨⟨d,d2⟩,u,b,⟨u1.root,u1.rp,by rw[u1.its,i1.its],u1.bal⟩,⟨i2.root,Rp.frame u5 (fun s hs hs2=>(List.nodup_append.1 hn').2.2 s hs2 s hs rfl) i2.rp,i2.its,i2.bal⟩,_,hu.to u5 (fun s hs=>?_) (Nat.le_refl _)⟩
   rw[hq'] at hs ⊢;simp only[List.mem_append,List.mem_cons] at hs ⊢;rcases hs with(h|h)|h|h|h<;>simp[h]
  ·rw[if_neg hc,if_neg hc];have hc2:¬ 0<O.cmp e x:=fun h=>hc ((Z.swap _ _).2 h)
   obtain⟨e1,e2⟩:=lo_lt' (l:=l.items) (q:=q.items) (r:=r) hc2;rw[e1,e2];obtain⟨d,a,b,i1,i2,kk,i3⟩:=cut_tr (K:=K) l (k:=k) (m:=see m r) (see_ok.2 ho) (hr3.see _) b1 hs.left (List.nodup_append.1 hn).1 (Z.left _ _ hg) (by omega) (by omega)
   have hu:=(see_upd (zn O) m r).to i3 (S:=l.refs) (fun s hs=>by simpa using hs) (Nat.le_refl _)
   have ha':a.refs=List.map Prod.fst (lo O e l.items):=by rw[Tr.refs,i1.its]
   have hb':b.refs=List.map Prod.fst (hi O e l.items):=by rw[Tr.refs,i2.its]
   have hl':l.refs=a.refs++b.refs:=by rw[ha',hb',rf_lo_hi];rfl
   have hle:l.elems=a.elems++b.elems:=by rw[Tr.elems,Tr.elems,Tr.elems,i1.its,i2.its,← List.map_append,lo_hi]
   have hbh:=b.h_le;have hbl:b.items.length≤l.items.length:=by
    have:=congrArg List.length (lo_hi O e l.items);rw[List.length_append] at this;rw[i2.its];omega
   rw[hl'] at hn;have hn':(a.refs++(b.refs++r::q.refs)).Nodup:=by simpa using hn
   rw[hle] at hg;have hg':good (b.elems++x::q.elems):=Z.right a.elems _ (by simpa using hg)
   have hrx:(lk O (cutF O K k (see m r) l.root e).2.2 r).e=x:=by
    rw[show lk O (cutF O K k (see m r) l.root e).2.2 r=lk O m r from hu.look r (fun h=>nodc.2.2 r h r (Or.inl rfl) rfl),hr2];rfl
   rw[i2.root];obtain⟨d2,u,u1,u2,u3,u4,u5⟩:=link_tr Z K b q (m:=(cutF O K k (see m r) l.root e).2.2) (b:=r) (e:=x) (cutF_ok.2 (see_ok.2 ho)) i2.rp (Rp.frame hu (fun s hs hs2=>nodc.2.2 s hs2 s (Or.inr hs) rfl) hr4)
    (by rw[hu.has];exact hr1) hrx (List.nodup_append.1 hn').2.1 hg' i2.bal b2 (by omega)
   refine⟨⟨d,d2⟩,a,u,⟨i1.root,Rp.frame u5 (fun s hs hs2=>(List.nodup_append.1 hn').2.2 s hs s hs2 rfl) i1.rp,i1.its,i1.bal⟩,⟨u1.root,u1.rp,by rw[u1.its,i2.its],u1.bal⟩,_,hu.to u5 (fun s hs=>?_) (Nat.le_refl _)⟩
   rw[hl'] at hs ⊢;simp only[List.mem_append,List.mem_cons] at hs ⊢;rcases hs with(h|h)|h|h|h<;>simp[h]
theorem find_tr {n:Nat} {e:E}:∀ (t:Tr E) {k:Nat} {m:Po E A},POk n m->Rp O S m t->Srt O t.items->t.h<k ->
  FindE O k m (nd O S t) e/\(find O k m (nd O S t) e).1=(match hit O e t.items with
   |none=>(O.e0,false)
   |some x=>(x.2,true))/\Upd [] t.h (zn O) m (find O k m (nd O S t) e).2
 |t,0,m,_,_,_,hk=>by omega
 |.nil,k+1,m,ho,hr,hs,hk=>by
  have h0:¬ (nd O S (Tr.nil (E:=E))).h>0:=by rw[nd_h];simp[Tr.h]
  rw[FindE,find,if_neg h0];exact⟨fun h=>absurd h h0,rfl,Upd.refl _ _ _ _⟩
 |.node r l x q,k+1,m,ho,⟨hr1,hr2,hr3,hr4⟩,hs,hk=>by
  have h0:(nd O S (Tr.node r l x q)).h>0:=by rw[nd_h];simp only[Tr.h];omega
  simp only[Tr.h] at hk ⊢;rw[Tr.items_node] at hs ⊢;rw[FindE,find,if_pos h0,nd_node];have kl:lk O m l.root=nd O S l:=hr3.root ho;have kq:lk O m q.root=nd O S q:=hr4.root ho;simp only[kl,kq];have il:=find_tr (e:=e) l (k:=k) (m:=see m l.root) (see_ok.2 ho) (hr3.see _) hs.left (by omega)
  have hsq:Srt O q.items:=(List.pairwise_cons.1 hs.right).2;have iq:=find_tr (e:=e) q (k:=k) (m:=see m q.root) (see_ok.2 ho) (hr4.see _) hsq (by omega)
  refine⟨fun _ _=>⟨fun _=>il.1,fun _=>iq.1⟩,?_⟩
  by_cases hc:O.cmp e x=0
  ·rw[if_pos hc,hit_eq Z hs hc];exact⟨rfl,Upd.refl _ _ _ _⟩
  ·rw[if_neg hc]
   by_cases hc2:O.cmp e x<0
   ·rw[if_pos hc2,hit_lt hc2];exact⟨il.2.1,(see_upd _ m _).to il.2.2 (fun s hs=>by simp at hs) (by omega)⟩
   ·rw[if_neg hc2,hit_gt Z hs (by omega)]
    exact⟨iq.2.1,(see_upd _ m _).to iq.2.2 (fun s hs=>by simp at hs) (by omega)⟩
theorem rank_tr {n:Nat} {e:E}:∀ (t:Tr E) {k:Nat} {m:Po E A} {c:Int},POk n m->Rp O S m t->Srt O t.items->t.h<k->0≤c->c+t.items.length≤2000000 ->
  RankE O k m (nd O S t) e c/\(rank O k m (nd O S t) e c).1=c+(lo O e t.items).length/\Upd [] (2*t.h) (zn O) m (rank O k m (nd O S t) e c).2
 |t,0,m,c,_,_,_,hk,_,_=>by omega
 |.nil,k+1,m,c,ho,hr,hs,hk,hc0,hc1=>by
  have h0:¬ (nd O S (Tr.nil (E:=E))).h>0:=by rw[nd_h];simp[Tr.h]
  rw[RankE,rank,if_neg h0];exact⟨fun h=>absurd h h0,by simp[lo,Tr.items],Upd.refl _ _ _ _⟩
 |.node r l x q,k+1,m,c,ho,⟨hr1,hr2,hr3,hr4⟩,hs,hk,hc0,hc1=>by
  have h0:(nd O S (Tr.node r l x q)).h>0:=by rw[nd_h];simp only[Tr.h];omega
  simp only[Tr.h] at hk ⊢;have hall:=nd_all (O:=O) (S:=S) Z.nil (.node r l x q);rw[Tr.items_node] at hs hc1 ⊢;simp only[List.length_append,List.length_cons] at hc1;rw[RankE,rank,if_pos h0];have kl:lk O m l.root=nd O S l:=hr3.root ho;have kq:lk O m q.root=nd O S q:=hr4.root ho;have e1:(nd O S (Tr.node r l x q)).l=l.root:=rfl;have e2:(nd O S (Tr.node r l x q)).r=q.root:=rfl;have e3:(nd O S (Tr.node r l x q)).e=x:=rfl;have hv:W (c+W ((nd O S (Tr.node r l x q)).all.n-(nd O S q).all.n))=c+(l.items.length+1:Nat):=by
   rw[hall,nd_all Z.nil];simp only[Tr.items_node,List.length_append,List.length_cons];rw[W_of (n:=((l.items.length+(q.items.length+1):Nat):Int)-(q.items.length:Int)) (by omega),W_of (by omega)]
   omega
  rw[e1,e2,e3];simp only[kl,kq];rw[hv];have hsq:Srt O q.items:=(List.pairwise_cons.1 hs.right).2;have il:=rank_tr (e:=e) l (k:=k) (m:=see m l.root) (c:=c) (see_ok.2 ho) (hr3.see _) hs.left (by omega) hc0 (by omega)
  have iq:=rank_tr (e:=e) q (k:=k) (m:=see m q.root) (c:=c+(l.items.length+1:Nat)) (see_ok.2 ho) (hr4.see _) hsq (by omega) (by omega) (by omega)
  refine⟨fun _=>⟨fun _=>il.1,fun _=>iq.1⟩,?_⟩
  by_cases hc:O.cmp e x≤0
  ·rw[if_pos hc,(lo_lt' (by omega)).1]
   exact⟨il.2.1,(see_upd _ m _).to il.2.2 (fun s hs=>by simp at hs) (by omega)⟩
  ·rw[if_neg hc,(lo_gt Z hs (by omega)).1]
   refine⟨?_,(see_upd _ m _).to iq.2.2 (fun s hs=>by simp at hs) (by omega)⟩
   rw[iq.2.1];simp only[List.length_append,List.length_cons];omega
theorem nth_tr {n:Nat}:∀ (t:Tr E) {k:Nat} {m:Po E A} {i:Nat},POk n m->Rp O S m t->t.items.length≤1000000->t.h<k->i<t.items.length ->
  NthE O k m (nd O S t) i/\(nthF O k m (nd O S t) i).1=t.elems.getD i O.e0/\Upd [] (2*t.h) (zn O) m (nthF O k m (nd O S t) i).2
 |t,0,m,i,_,_,_,hk,_=>by omega
 |.nil,k+1,m,i,ho,hr,hg,hk,hi=>by simp[Tr.items] at hi
 |.node r l x q,k+1,m,i,ho,⟨hr1,hr2,hr3,hr4⟩,hg,hk,hi=>by
  simp only[Tr.h] at hk ⊢;rw[Tr.items_node] at hg hi;simp only[List.length_append,List.length_cons] at hg hi;rw[NthE,nthF];have kl:lk O m l.root=nd O S l:=hr3.root ho;have kq:lk O m q.root=nd O S q:=hr4.root ho;have e1:(nd O S (Tr.node r l x q)).l=l.root:=rfl;have e2:(nd O S (Tr.node r l x q)).r=q.root:=rfl;have e3:(nd O S (Tr.node r l x q)).e=x:=rfl;have e4:(nd O S l).all.n=l.items.length:=by rw[nd_all Z.nil]
  rw[e1,e2,e3];simp only[lk_see,kl,kq,e4];have w1:W (((l.items.length:Nat):Int)+1)=(l.items.length:Int)+1:=W_of (by omega)
  rw[w1,Tr.elems_node];have hle:l.elems.length=l.items.length:=Tr.elems_length l
  by_cases h1:(i:Int)=(l.items.length:Int)
  ·rw[if_pos h1];refine⟨fun h=>absurd h1 h,?_,(see_upd _ m _).mono (fun s hs=>hs) (by omega)⟩
   rw[List.getD_eq_getElem?_getD,List.getElem?_append_right (by omega)]
   simp[hle,show i-l.items.length=0 by omega]
  ·rw[if_neg h1]
   by_cases h2:(i:Int)<(l.items.length:Int)
   ·rw[if_pos h2];obtain⟨i1,i2,i3⟩:=nth_tr l (k:=k) (m:=see m l.root) (i:=i) (see_ok.2 ho) (hr3.see _) (by omega) (by omega) (by omega)
    refine⟨fun _=>⟨fun _=>i1,fun h=>absurd h2 h⟩,?_,(see_upd _ m _).to i3 (fun s hs=>by simp at hs) (by omega)⟩
    rw[i2,List.getD_eq_getElem?_getD,List.getD_eq_getElem?_getD,List.getElem?_append_left (by omega)]
   ·rw[if_neg h2];have w2:W ((i:Int)-((l.items.length:Int)+1))=((i-(l.items.length+1):Nat):Int):=by rw[W_of (by omega)];omega
    rw[w2];obtain⟨i1,i2,i3⟩:=nth_tr q (k:=k) (m:=see (see m l.root) q.root) (i:=i-(l.items.length+1)) (see_ok.2 (see_ok.2 ho)) ((hr4.see _).see _) (by omega) (by omega) (by omega)
    refine⟨fun _=>⟨fun h=>absurd h h2,fun _=>i1⟩,?_,(see2_upd m _ _).to i3 (fun s hs=>by simp at hs) (by omega)⟩
    rw[i2,List.getD_eq_getElem?_getD,List.getD_eq_getElem?_getD,List.getElem?_append_right (by omega),hle,show i-l.items.length=(i-(l.items.length+1))+1 by omega,List.getElem?_cons_succ]
def sub (l:List E) (a b:Nat):List E:=(l.drop a).take (b-a)
omit Z in
theorem sub_node (L Q:List E) (x:E) {a b:Nat} (hab:a≤b):sub (L++x::Q) a b=sub L a b++((if a≤L.length/\L.length<b then[x] else[])++sub Q (a-(L.length+1)) (b-(L.length+1))):=by
 unfold sub;rw[List.drop_append,List.take_append]
 congr 1
 rw[List.length_drop]
 by_cases h1:a≤L.length
 ·rw[show a-L.length=0 by omega,List.drop_zero,show a-(L.length+1)=0 by omega,List.drop_zero]
  by_cases h2:L.length<b
  ·rw[if_pos ⟨h1,h2⟩,show b-a-(L.length-a)=(b-(L.length+1))+1 by omega,List.take_succ_cons]
   rfl
  ·rw[if_neg (by omega),show b-a-(L.length-a)=0 by omega,show b-(L.length+1)-0=0 by omega]
   simp
 ·rw[if_neg (by omega),show a-L.length=(a-(L.length+1))+1 by omega,List.drop_succ_cons,List.nil_append]
  congr 1
  omega
theorem good_sub {l:List E} (a b:Nat) (h:good l):good (sub l a b):=by
 unfold sub;have h1:good (l.drop a):=Z.right (l.take a) _ (by rw[List.take_append_drop];exact h)
 exact Z.left _ ((l.drop a).drop (b-a)) (by rw[List.take_append_drop];exact h1)
omit Z in
theorem sub_none {l:List E} {a b:Nat} (h:b≤a∨l.length≤a):sub l a b=[]:=by
 unfold sub;rcases h with h|h
 ·rw[show b-a=0 by omega,List.take_zero]
 ·rw[List.drop_of_length_le h,List.take_nil]
omit Z in
theorem sub_cap (l:List E) (a b:Nat):sub l a (min b l.length)=sub l a b:=by
 unfold sub;rcases Nat.le_total b l.length with h|h
 ·rw[Nat.min_eq_left h]
 ·rw[Nat.min_eq_right h,List.take_of_length_le (by simp),List.take_of_length_le (by simp;omega)]
def cost (h s:Nat) (f u:Int):Nat:=if(max f 0≥min u s)∨(f≤0/\u≥s) then 0 else if f≤0∨u≥s then 2*h else 4*h
omit Z in
theorem cost_le (h s:Nat) (f u:Int):cost h s f u≤4*h/\(f≤0∨u≥s->cost h s f u≤2*h)/\((max f 0≥min u s)∨(f≤0/\u≥s)->cost h s f u=0):=by
 unfold cost;refine⟨by split<;>(try split)<;>omega,fun hc=>by split<;>(try split)<;>omega,fun hc=>by rw[if_pos hc]⟩
omit Z in
theorem cost_eq {h s:Nat} {f u:Int} (h1:¬ ((max f 0≥min u s)∨(f≤0/\u≥s))):cost h s f u=if f≤0∨u≥s then 2*h else 4*h:=by unfold cost;rw[if_neg h1]
theorem between_tr {n:Nat}:∀ (t:Tr E) {k:Nat} {m:Po E A} {f u:Int},POk n m->Rp O S m t->good t.elems->t.h<k ->
  BetE O k m (nd O S t) f u/\(between O k m (nd O S t) f u).1=⟨(sub t.elems f.toNat u.toNat).length,S (sub t.elems f.toNat u.toNat)⟩/\Upd [] (cost t.h t.elems.length f u) (zn O) m (between O k m (nd O S t) f u).2
 |t,0,m,f,u,_,_,_,hk=>by omega
 |.nil,k+1,m,f,u,ho,hr,hg,hk=>by
  have hall:(nd O S (Tr.nil (E:=E))).all.n=0:=rfl;have hc:mx f 0≥mn u (nd O S (Tr.nil (E:=E))).all.n:=by rw[hall];unfold mx mn;split<;>split<;>omega
  rw[BetE,between,if_pos hc];refine⟨fun h=>absurd hc h,?_,Upd.refl _ _ _ _⟩
  rw[sub_none (.inr (Nat.zero_le _)),← Z.nil]
  rfl
 |.node r l x q,k+1,m,f,u,ho,⟨hr1,hr2,hr3,hr4⟩,hg,hk=>by
  simp only[Tr.h] at hk ⊢;have hlen:=Z.len _ hg;have hall:=nd_all (O:=O) (S:=S) Z.nil (.node r l x q);rw[← Tr.elems_length] at hall;have kl:lk O m l.root=nd O S l:=hr3.root ho;have kq:lk O m q.root=nd O S q:=hr4.root ho;have e1:(nd O S (Tr.node r l x q)).l=l.root:=rfl;have e2:(nd O S (Tr.node r l x q)).r=q.root:=rfl;have e3:(nd O S (Tr.node r l x q)).e=x:=rfl;have e4:(nd O S l).all.n=l.elems.length:=by rw[nd_all Z.nil,Tr.elems_length]
  rw[BetE,between,e1,e2,e3,hall];rw[Tr.elems_node] at hg hlen ⊢;simp only[kl,e4,lk_between,lk_see,kq];generalize hL:(l.elems++x::q.elems)=L at *
  have hLl:L.length=l.elems.length+(q.elems.length+1):=by rw[← hL];simp
  obtain⟨a,ha⟩:∃ a:Nat,mx f 0=a:=⟨f.toNat,by unfold mx;split<;>omega⟩
  have ha':a=f.toNat:=by unfold mx at ha;split at ha<;>omega
  by_cases c1:mx f 0≥mn u L.length
  ·rw[if_pos c1];refine⟨fun h=>absurd c1 h,?_,Upd.refl _ _ _ _⟩
   have:min u.toNat L.length≤a:=by unfold mn at c1;rw[ha] at c1;split at c1<;>omega
   rw[← sub_cap,← ha',sub_none (.inl this),← Z.nil]
   rfl
  ·rw[if_neg c1];obtain⟨b,hb⟩:∃ b:Nat,mn u L.length=b:=⟨min u.toNat L.length,by unfold mn at c1 ⊢;split at c1<;>split<;>omega⟩
   have hb':b=min u.toNat L.length:=by unfold mn at c1 hb;split at hb<;>omega
   have hsub:sub L f.toNat u.toNat=sub L a b:=by rw[hb',sub_cap,ha']
   rw[hsub];rw[ha,hb] at c1 ⊢;have hab:a<b:=by omega
   by_cases c2:(a:Int)=0/\(b:Int)=L.length
   ·rw[if_pos c2];refine⟨fun _ h=>absurd c2 h,?_,Upd.refl _ _ _ _⟩
    have:sub L a b=L:=by
     unfold sub;rw[show a=0 by omega,List.drop_zero,show b-0=L.length by omega,List.take_length]
    rw[this]
   ·rw[if_neg c2];have hgl:good l.elems:=Z.left _ (x::q.elems) (by rw[hL];exact hg)
    have hgq:good q.elems:=Z.right (l.elems++[x]) _ (by rw[List.append_assoc];simpa [hL] using hg)
    have ih1:=between_tr l (k:=k) (m:=see m l.root) (f:=a) (u:=b) (see_ok.2 ho) (hr3.see _) hgl (by omega)
    simp only[Int.toNat_natCast] at ih1;obtain⟨d1,v1,u1⟩:=ih1;have hu1:=(see_upd (zn O) m l.root).to u1 (S:=[]) (k:=cost l.h l.elems.length a b+1) (fun s hs=>by simp at hs) (by omega)
    have w1:W ((l.elems.length:Int)+1)=(l.elems.length:Int)+1:=W_of (by omega)
    have w2:W (W ((a:Int)-(l.elems.length:Int))-1)=(a:Int)-l.elems.length-1:=by rw[W_of (n:=(a:Int)-(l.elems.length:Int)) (by omega),W_of (by omega)]
    have w3:W (W ((b:Int)-(l.elems.length:Int))-1)=(b:Int)-l.elems.length-1:=by rw[W_of (n:=(b:Int)-(l.elems.length:Int)) (by omega),W_of (by omega)]
    rw[w1,w2,w3,v1];have hsn:=sub_node l.elems q.elems x (a:=a) (b:=b) (by omega)
    rw[hL] at hsn;have hgs:=good_sub Z a b hg;rw[hsn] at hgs ⊢
    have hone:(if(a:Int)≤(l.elems.length:Int)/\(l.elems.length:Int)<(b:Int) then plusP O ⟨(sub l.elems a b).length,S (sub l.elems a b)⟩ (one O x) else⟨(sub l.elems a b).length,S (sub l.elems a b)⟩) =
      ⟨(sub l.elems a b++(if a≤l.elems.length/\l.elems.length<b then[x] else[])).length,S (sub l.elems a b++(if a≤l.elems.length/\l.elems.length<b then[x] else[]))⟩:=by
     by_cases c3:a≤l.elems.length/\l.elems.length<b
     ·rw[if_pos (by omega),if_pos c3]
      rw[if_pos c3] at hgs;rw[one_part Z,part_plus Z (Z.left _ (sub q.elems (a-(l.elems.length+1)) (b-(l.elems.length+1))) (by simpa using hgs))]
     ·rw[if_neg (by omega),if_neg c3,List.append_nil]
    rw[hone]
    by_cases c4:(b:Int)≤(l.elems.length:Int)+1
    ·rw[if_pos c4];refine⟨fun _ _=>⟨d1,fun h=>absurd c4 h⟩,?_,hu1.mono (fun s hs=>hs) ?_⟩
     rotate_left
     ·have q1:=cost_le l.h l.elems.length a b;have q0:¬ ((max f 0≥min u (L.length:Nat))∨(f≤0/\u≥(L.length:Nat))):=by omega
      rw[cost_eq q0];split<;>omega
     rw[sub_none (l:=q.elems) (.inl (by omega)),List.append_nil]
    ·rw[if_neg c4];obtain⟨d2,v2,u2⟩:=between_tr q (k:=k) (m:=see (between O k (see m l.root) (nd O S l) a b).2 q.root) (f:=(a:Int)-l.elems.length-1) (u:=(b:Int)-l.elems.length-1) (see_ok.2 (between_ok.2 (see_ok.2 ho)))
      ((Rp.frame hu1 (fun s _ hs=>by cases hs) hr4).see _) hgq (by omega)
     refine⟨fun _ _=>⟨d1,fun _=>d2⟩,?_,(hu1.to (see_upd _ _ q.root) (S:=[]) (k:=cost l.h l.elems.length a b+2) (fun s hs=>by simp at hs) (by omega)).to u2 (fun s hs=>by simp at hs) ?_⟩
     ·rw[v2];rw[show((a:Int)-l.elems.length-1).toNat=a-(l.elems.length+1) by omega,show((b:Int)-l.elems.length-1).toNat=b-(l.elems.length+1) by omega]
      rw[part_plus Z (by rw[List.append_assoc];exact hgs),List.append_assoc]
     ·have q1:=cost_le l.h l.elems.length a b;have q2:=cost_le q.h q.elems.length ((a:Int)-l.elems.length-1) ((b:Int)-l.elems.length-1);have q0:¬ ((max f 0≥min u (L.length:Nat))∨(f≤0/\u≥(L.length:Nat))):=by omega
      rw[cost_eq q0];split
      ·rcases Nat.eq_zero_or_pos a with h0|h0
       ·have:=q1.2.2 (by omega)
        have:=q2.2.1 (by omega)
        omega
       ·rcases Nat.lt_or_ge l.elems.length a with h3|h3
        ·have:=q1.2.2 (by omega)
         have:=q2.2.1 (by omega)
         omega
        ·have:=q1.2.1 (by omega)
         have:=q2.2.2 (by omega)
         omega
      ·rcases Nat.lt_or_ge l.elems.length a with h3|h3
       ·have:=q1.2.2 (by omega)
        omega
       ·have:=q1.2.1 (by omega)
        have:=q2.2.1 (by omega)
        omega
end
end Gv
namespace Gv
open Rx
set_option linter.unusedSectionVars false
section
variable {E A:Type} {O:Ops E A} {S:List E->A} {good:List E->Prop} (Z:Laws O S good)
structure Asks (O:Ops E A) (S:List E->A) (may:A->A->Bool) (P:Nat->Bool) (L:List E):Prop where
 at_:∀ p x q,p++x::q=L->P p.length=may (S p) (O.sum x)
 mon:∀ p l q,p++(l++q)=L->∀ i,p.length≤i->i<p.length+l.length->P i=true->may (S p) (S l)=true
def FirstIs (P:Nat->Bool) (a b:Nat) (from_ r:Int):Prop :=
 (r = -1/\∀ i:Nat,a≤i->i<b->from_≤i->P i=false)∨(∃ j:Nat,r=j/\a≤j/\j<b/\from_≤j/\P j=true/\∀ i:Nat,a≤i->i<j->from_≤i->P i=false)
def LastIs (P:Nat->Bool) (a b:Nat) (to r:Int):Prop :=
 (r = -1/\∀ i:Nat,a≤i->i<b->(i:Int)<to->P i=false)∨(∃ j:Nat,r=j/\a≤j/\j<b/\(j:Int)<to/\P j=true/\∀ i:Nat,j<i->i<b->(i:Int)<to->P i=false)
include Z
theorem first_tr {n:Nat} {may:A->A->Bool} {P:Nat->Bool} {L:List E} {f:Int} (hA:Asks O S may P L) (hg:good L):∀ (t:Tr E) {k:Nat} {m:Po E A} {p s:List E},POk n m->Rp O S m t->p++(t.elems++s)=L->t.h<k ->
  FirstIs P p.length (p.length+t.elems.length) f (first O may k m (nd O S t) ⟨p.length,S p⟩ f).1/\∃ kk,Upd [] kk (zn O) m (first O may k m (nd O S t) ⟨p.length,S p⟩ f).2
 |t,0,m,p,s,_,_,_,hk=>by omega
 |.nil,k+1,m,p,s,ho,hr,hL,hk=>by
  rw[first,if_pos (.inl (by rw[nd_h];rfl))]
  exact⟨.inl ⟨rfl,fun i h1 h2=>by simp[Tr.elems,Tr.items] at h2;omega⟩,0,Upd.refl _ _ _ _⟩
 |.node r l x q,k+1,m,p,s,ho,⟨hr1,hr2,hr3,hr4⟩,hL,hk=>by
  simp only[Tr.h] at hk;have hlen:=Z.len _ hg;have hall:=nd_all (O:=O) (S:=S) Z.nil (.node r l x q);rw[← Tr.elems_length] at hall;have kl:lk O m l.root=nd O S l:=hr3.root ho;have kq:lk O m q.root=nd O S q:=hr4.root ho;have e1:(nd O S (Tr.node r l x q)).l=l.root:=rfl;have e2:(nd O S (Tr.node r l x q)).r=q.root:=rfl;have e3:(nd O S (Tr.node r l x q)).e=x:=rfl;have e5:¬ (nd O S (Tr.node r l x q)).h=0:=by rw[nd_h];simp only[Tr.h];omega
  have hLl:=congrArg List.length hL;rw[Tr.elems_node] at hL;have hL1:p++(l.elems++(x::q.elems++s))=L:=by simpa using hL
  have hL2:(p++l.elems)++x::(q.elems++s)=L:=by simpa using hL
  have hL3:(p++l.elems++[x])++(q.elems++s)=L:=by simpa using hL
  have hmon:=hA.mon p (Tr.node r l x q).elems s (by rw[Tr.elems_node];exact hL)
  rw[first,e1,e2,e3,hall]
  simp only[kl,lk_first,lk_see,kq,nd_all Z.nil,← Tr.elems_length];simp only[List.length_append] at hLl;have hsl:(Tr.node r l x q).elems.length=l.elems.length+(q.elems.length+1):=by rw[Tr.elems_node];simp
  have w1:W ((p.length:Int)+((Tr.node r l x q).elems.length:Int))=(p.length:Int)+(Tr.node r l x q).elems.length:=W_of (by omega)
  rw[w1]
  by_cases c1:(nd O S (Tr.node r l x q)).h=0∨(p.length:Int)+(Tr.node r l x q).elems.length≤f
  ·rw[if_pos c1];refine⟨.inl ⟨rfl,fun i h1 h2 h3=>?_⟩,0,Upd.refl _ _ _ _⟩
   rcases c1 with c1|c1
   ·exact absurd c1 e5
   ·omega
  ·rw[if_neg c1]
   by_cases c2:(p.length:Int)≥f/\may (S p) (S (Tr.node r l x q).elems)=false
   ·rw[if_pos c2];refine⟨.inl ⟨rfl,fun i h1 h2 h3=>?_⟩,0,Upd.refl _ _ _ _⟩
    cases hP:P i with
    |false=>rfl
    |true=>have:=hmon i h1 h2 hP;rw[c2.2] at this;cases this
   ·rw[if_neg c2];obtain⟨i1,kk,i2⟩:=first_tr hA hg l (k:=k) (m:=see m l.root) (p:=p) (s:=x::q.elems++s) (see_ok.2 ho) (hr3.see _) hL1 (by omega)
    have hu:=(see_upd (zn O) m l.root).to i2 (S:=[]) (fun s hs=>by simp at hs) (Nat.le_refl _)
    by_cases c3:(first O may k (see m l.root) (nd O S l) ⟨p.length,S p⟩ f).1≥0
    ·rw[if_pos c3];refine⟨?_,_,hu⟩;rcases i1 with⟨h1,_⟩|⟨j,h1,h2,h3,h4,h5,h6⟩
     ·omega
     ·exact .inr ⟨j,h1,h2,by omega,h4,h5,h6⟩
    ·rw[if_neg c3];have hno:∀ i:Nat,p.length≤i->i<p.length+l.elems.length->f≤i->P i=false:=by
      rcases i1 with⟨_,h⟩|⟨j,h1,_⟩
      ·exact h
      ·omega
     have hgl:good (p++l.elems):=Z.left _ (x::(q.elems++s)) (by rw[hL2];exact hg)
     have hgx:good ((p++l.elems)++[x]):=Z.left _ (q.elems++s) (by rw[hL3];exact hg)
     rw[part_plus Z hgl,one_part Z,part_plus Z hgx];have hPx:=hA.at_ (p++l.elems) x (q.elems++s) hL2;have hpl:(p++l.elems).length=p.length+l.elems.length:=by simp
     by_cases c4:((p++l.elems).length:Int)≥f/\may (S (p++l.elems)) (O.sum x)=true
     ·rw[if_pos c4];refine⟨.inr ⟨(p++l.elems).length,rfl,by omega,by omega,c4.1,by rw[hPx];exact c4.2,fun i h1 h2 h3=>hno i h1 (by omega) h3⟩,_,hu⟩
     ·rw[if_neg c4];obtain⟨j1,kk2,j2⟩:=first_tr hA hg q (k:=k) (m:=see (first O may k (see m l.root) (nd O S l) ⟨p.length,S p⟩ f).2 q.root) (p:=p++l.elems++[x]) (s:=s) (see_ok.2 (first_ok.2 (see_ok.2 ho)))
       ((Rp.frame hu (fun s _ hs=>by cases hs) hr4).see _) hL3 (by omega)
      refine⟨?_,_,(hu.to (see_upd _ _ q.root) (S:=[]) (fun s hs=>by simp at hs) (Nat.le_refl _)).to j2 (fun s hs=>by simp at hs) (Nat.le_refl _)⟩
      have hxl:(p++l.elems++[x]).length=p.length+l.elems.length+1:=by simp;omega
      have hnx:f≤(p++l.elems).length->P (p++l.elems).length=false:=fun h=>by
       rw[hPx];cases hm:may (S (p++l.elems)) (O.sum x) with
       |false=>rfl
       |true=>exact absurd ⟨h,hm⟩ c4
      have hall2:∀ i:Nat,p.length≤i->i<p.length+l.elems.length+1->f≤i->P i=false:=fun i h1 h2 h3=>by
       rcases Nat.lt_or_ge i (p.length+l.elems.length) with h4|h4
       ·exact hno i h1 h4 h3
       ·have:i=(p++l.elems).length:=by omega
        rw[this];exact hnx (by omega)
      rcases j1 with⟨h1,h2⟩|⟨j,h1,h2,h3,h4,h5,h6⟩
      ·refine .inl ⟨h1,fun i g1 g2 g3=>?_⟩
       rcases Nat.lt_or_ge i (p.length+l.elems.length+1) with h4|h4
       ·exact hall2 i g1 h4 g3
       ·exact h2 i (by rw[hxl];exact h4) (by rw[hxl];omega) g3
      ·rw[hxl] at h2 h3 h6;refine .inr ⟨j,h1,by omega,by omega,h4,h5,fun i g1 g2 g3=>?_⟩
       rcases Nat.lt_or_ge i (p.length+l.elems.length+1) with h7|h7
       ·exact hall2 i g1 h7 g3
       ·exact h6 i h7 g2 g3
theorem last_tr {n:Nat} {may:A->A->Bool} {P:Nat->Bool} {L:List E} {u:Int} (hA:Asks O S may P L) (hg:good L):∀ (t:Tr E) {k:Nat} {m:Po E A} {p s:List E},POk n m->Rp O S m t->p++(t.elems++s)=L->t.h<k ->
  LastIs P p.length (p.length+t.elems.length) u (last O may k m (nd O S t) ⟨p.length,S p⟩ u).1/\∃ kk,Upd [] kk (zn O) m (last O may k m (nd O S t) ⟨p.length,S p⟩ u).2
 |t,0,m,p,s,_,_,_,hk=>by omega
 |.nil,k+1,m,p,s,ho,hr,hL,hk=>by
  rw[last,if_pos (.inl (by rw[nd_h];rfl))]
  exact⟨.inl ⟨rfl,fun i h1 h2=>by simp[Tr.elems,Tr.items] at h2;omega⟩,0,Upd.refl _ _ _ _⟩
 |.node r l x q,k+1,m,p,s,ho,⟨hr1,hr2,hr3,hr4⟩,hL,hk=>by
  simp only[Tr.h] at hk;have hlen:=Z.len _ hg;have hall:=nd_all (O:=O) (S:=S) Z.nil (.node r l x q);rw[← Tr.elems_length] at hall;have kl:lk O m l.root=nd O S l:=hr3.root ho;have kq:lk O m q.root=nd O S q:=hr4.root ho;have e1:(nd O S (Tr.node r l x q)).l=l.root:=rfl;have e2:(nd O S (Tr.node r l x q)).r=q.root:=rfl;have e3:(nd O S (Tr.node r l x q)).e=x:=rfl;have e5:¬ (nd O S (Tr.node r l x q)).h=0:=by rw[nd_h];simp only[Tr.h];omega
  have hLl:=congrArg List.length hL;rw[Tr.elems_node] at hL;have hL1:p++(l.elems++(x::q.elems++s))=L:=by simpa using hL
  have hL2:(p++l.elems)++x::(q.elems++s)=L:=by simpa using hL
  have hL3:(p++l.elems++[x])++(q.elems++s)=L:=by simpa using hL
  have hmon:=hA.mon p (Tr.node r l x q).elems s (by rw[Tr.elems_node];exact hL)
  rw[last,e1,e2,e3,hall];simp only[kl,lk_last,lk_see,kq,nd_all Z.nil,← Tr.elems_length];simp only[List.length_append] at hLl;have hsl:(Tr.node r l x q).elems.length=l.elems.length+(q.elems.length+1):=by rw[Tr.elems_node];simp
  have w1:W ((p.length:Int)+((Tr.node r l x q).elems.length:Int))=(p.length:Int)+(Tr.node r l x q).elems.length:=W_of (by omega)
  rw[w1]
  by_cases c1:(nd O S (Tr.node r l x q)).h=0∨(p.length:Int)≥u
  ·rw[if_pos c1];refine⟨.inl ⟨rfl,fun i h1 h2 h3=>?_⟩,0,Upd.refl _ _ _ _⟩
   rcases c1 with c1|c1
   ·exact absurd c1 e5
   ·omega
  ·rw[if_neg c1]
   by_cases c2:(p.length:Int)+(Tr.node r l x q).elems.length≤u/\may (S p) (S (Tr.node r l x q).elems)=false
   ·rw[if_pos c2];refine⟨.inl ⟨rfl,fun i h1 h2 h3=>?_⟩,0,Upd.refl _ _ _ _⟩
    cases hP:P i with
    |false=>rfl
    |true=>have:=hmon i h1 h2 hP;rw[c2.2] at this;cases this
   ·rw[if_neg c2];have hgl:good (p++l.elems):=Z.left _ (x::(q.elems++s)) (by rw[hL2];exact hg)
    have hgx:good ((p++l.elems)++[x]):=Z.left _ (q.elems++s) (by rw[hL3];exact hg)
    rw[part_plus Z hgl,one_part Z,part_plus Z hgx];obtain⟨i1,kk,i2⟩:=last_tr hA hg q (k:=k) (m:=see (see m l.root) q.root) (p:=p++l.elems++[x]) (s:=s) (see_ok.2 (see_ok.2 ho)) ((hr4.see _).see _) hL3 (by omega)
    have hu:=(see2_upd (O:=O) m l.root q.root).to i2 (S:=[]) (fun s hs=>by simp at hs) (Nat.le_refl _)
    have hxl:(p++l.elems++[x]).length=p.length+l.elems.length+1:=by simp;omega
    have hpl:(p++l.elems).length=p.length+l.elems.length:=by simp
    have hPx:=hA.at_ (p++l.elems) x (q.elems++s) hL2
    by_cases c3:(last O may k (see (see m l.root) q.root) (nd O S q) ⟨(p++l.elems++[x]).length,S (p++l.elems++[x])⟩ u).1≥0
    ·rw[if_pos c3];refine⟨?_,_,hu⟩;rcases i1 with⟨h1,_⟩|⟨j,h1,h2,h3,h4,h5,h6⟩
     ·omega
     ·rw[hxl] at h2 h3;exact .inr ⟨j,h1,by omega,by omega,h4,h5,fun i g1 g2 g3=>h6 i g1 (by rw[hxl];omega) g3⟩
    ·rw[if_neg c3];have hno:∀ i:Nat,p.length+l.elems.length+1≤i->i<p.length+(Tr.node r l x q).elems.length->(i:Int)<u->P i=false:=by
      rcases i1 with⟨_,h⟩|⟨j,h1,_⟩
      ·exact fun i g1 g2 g3=>h i (by rw[hxl];exact g1) (by rw[hxl];omega) g3
      ·omega
     by_cases c4:((p++l.elems).length:Int)<u/\may (S (p++l.elems)) (O.sum x)=true
     ·rw[if_pos c4];refine⟨.inr ⟨(p++l.elems).length,rfl,by omega,by omega,c4.1,by rw[hPx];exact c4.2,fun i h1 h2 h3=>hno i (by omega) h2 h3⟩,_,hu⟩
     ·rw[if_neg c4];obtain⟨j1,kk2,j2⟩:=last_tr hA hg l (k:=k) (m:=(last O may k (see (see m l.root) q.root) (nd O S q) ⟨(p++l.elems++[x]).length,S (p++l.elems++[x])⟩ u).2) (p:=p) (s:=x::q.elems++s) (last_ok.2 (see_ok.2 (see_ok.2 ho)))
       (Rp.frame hu (fun s _ hs=>by cases hs) hr3) hL1 (by omega)
      refine⟨?_,_,hu.to j2 (S:=[]) (fun s hs=>by simp at hs) (Nat.le_refl _)⟩
      have hnx:((p++l.elems).length:Int)<u->P (p++l.elems).length=false:=fun h=>by
       rw[hPx];cases hm:may (S (p++l.elems)) (O.sum x) with
       |false=>rfl
       |true=>exact absurd ⟨h,hm⟩ c4
      have hall2:∀ i:Nat,p.length+l.elems.length≤i->i<p.length+(Tr.node r l x q).elems.length->(i:Int)<u->P i=false:=fun i h1 h2 h3=>by
       rcases Nat.lt_or_ge (p.length+l.elems.length) i with h4|h4
       ·exact hno i h4 h2 h3
       ·have:i=(p++l.elems).length:=by omega
        rw[this];exact hnx (by omega)
      rcases j1 with⟨h1,h2⟩|⟨j,h1,h2,h3,h4,h5,h6⟩
      ·refine .inl ⟨h1,fun i g1 g2 g3=>?_⟩
       rcases Nat.lt_or_ge i (p.length+l.elems.length) with h4|h4
       ·exact h2 i g1 h4 g3
       ·exact hall2 i h4 g2 g3
      ·refine .inr ⟨j,h1,h2,by omega,h4,h5,fun i g1 g2 g3=>?_⟩
       rcases Nat.lt_or_ge i (p.length+l.elems.length) with h7|h7
       ·exact h6 i g1 h7 g3
       ·exact hall2 i h7 g2 g3
end
end Gv
namespace Gv
open Rx
set_option linter.unusedSectionVars false
section
variable {E A:Type} (O:Ops E A)
def loE (e:E) (l:List E):List E:=l.takeWhile fun x=>decide (0<O.cmp e x)
def hiE (e:E) (l:List E):List E:=l.dropWhile fun x=>decide (0<O.cmp e x)
def hitE (e:E) (l:List E):Option E :=
 match hiE O e l with
 |[]=>none
 |x::_=>if O.cmp e x=0 then some x else none
def SrtE (l:List E):Prop:=l.Pairwise fun a b=>O.cmp a b<0
def putE (e:E) (l:List E):List E :=
 match hitE O e l with
 |none=>loE O e l++e::hiE O e l
 |some _=>loE O e l++e::(hiE O e l).tail
def dropE (e:E) (l:List E):List E :=
 match hitE O e l with
 |none=>l
 |some _=>loE O e l++(hiE O e l).tail
variable {O}
theorem loE_hiE (e:E) (l:List E):loE O e l++hiE O e l=l:=List.takeWhile_append_dropWhile
theorem loE_map (e:E) (l:List (Ref×E)):(lo O e l).map Prod.snd=loE O e (l.map Prod.snd):=by
 unfold lo loE;rw[List.takeWhile_map]
 rfl
theorem hiE_map (e:E) (l:List (Ref×E)):(hi O e l).map Prod.snd=hiE O e (l.map Prod.snd):=by
 unfold hi hiE;rw[List.dropWhile_map]
 rfl
theorem hitE_map (e:E) (l:List (Ref×E)):(hit O e l).map Prod.snd=hitE O e (l.map Prod.snd):=by
 unfold hit hitE;rw[← hiE_map];cases hi O e l with
 |nil=>rfl
 |cons x tl=>simp only[List.map_cons];split<;>rfl
theorem Srt_map {l:List (Ref×E)}:SrtE O (l.map Prod.snd)↔Srt O l:=by
 unfold SrtE Srt;rw[List.pairwise_map]
theorem hiE_tail (e:E) (l:List (Ref×E)):(hi O e l).tail.map Prod.snd=(hiE O e (l.map Prod.snd)).tail:=by
 rw[← hiE_map,List.map_tail]
theorem cons_gt {e y:E} {l:List E} (h:0<O.cmp e y):loE O e (y::l)=y::loE O e l/\hiE O e (y::l)=hiE O e l/\hitE O e (y::l)=hitE O e l/\putE O e (y::l)=y::putE O e l/\dropE O e (y::l)=y::dropE O e l:=by
 have h1:loE O e (y::l)=y::loE O e l:=by unfold loE;rw[List.takeWhile_cons,if_pos (by simpa using h)]
 have h2:hiE O e (y::l)=hiE O e l:=by unfold hiE;rw[List.dropWhile_cons,if_pos (by simpa using h)]
 have h3:hitE O e (y::l)=hitE O e l:=by unfold hitE;rw[h2]
 refine⟨h1,h2,h3,?_,?_⟩
 ·unfold putE;rw[h1,h2,h3];split<;>rfl
 ·unfold dropE;rw[h1,h2,h3];split<;>rfl
theorem cons_ngt {e y:E} {l:List E} (h:¬ 0<O.cmp e y):loE O e (y::l)=[]/\hiE O e (y::l)=y::l:=by
 refine⟨?_,?_⟩
 ·unfold loE;rw[List.takeWhile_cons,if_neg (by simpa using h)]
 ·unfold hiE;rw[List.dropWhile_cons,if_neg (by simpa using h)]
theorem cons_eq {e y:E} {l:List E} (h:O.cmp e y=0):hitE O e (y::l)=some y/\putE O e (y::l)=e::l/\dropE O e (y::l)=l:=by
 obtain⟨h1,h2⟩:=cons_ngt (O:=O) (e:=e) (y:=y) (l:=l) (by omega)
 have h3:hitE O e (y::l)=some y:=by unfold hitE;rw[h2];exact if_pos h
 refine⟨h3,?_,?_⟩
 ·unfold putE;rw[h1,h2,h3];rfl
 ·unfold dropE;rw[h1,h2,h3];rfl
theorem cons_lt {e y:E} {l:List E} (h:O.cmp e y<0):hitE O e (y::l)=none/\putE O e (y::l)=e::y::l/\dropE O e (y::l)=y::l:=by
 obtain⟨h1,h2⟩:=cons_ngt (O:=O) (e:=e) (y:=y) (l:=l) (by omega)
 have h3:hitE O e (y::l)=none:=by unfold hitE;rw[h2];exact if_neg (by omega)
 refine⟨h3,?_,?_⟩
 ·unfold putE;rw[h1,h2,h3];rfl
 ·unfold dropE;rw[h3]
theorem put_mem {e:E}:∀ {l:List E} {x:E},x∈putE O e l->x=e∨x∈l
 |[],x,h=>by simp[putE,hitE,hiE,loE] at h;exact .inl h
 |y::l,x,h=>by
  rcases Int.lt_trichotomy (O.cmp e y) 0 with c|c|c
  ·rw[(cons_lt c).2.1] at h
   simpa using h
  ·rw[(cons_eq c).2.1] at h;rcases List.mem_cons.1 h with h|h
   ·exact .inl h
   ·exact .inr (List.mem_cons_of_mem _ h)
  ·rw[(cons_gt c).2.2.2.1] at h;rcases List.mem_cons.1 h with h|h
   ·exact .inr (by rw[h];exact List.mem_cons_self)
   ·rcases put_mem h with h|h
    ·exact .inl h
    ·exact .inr (List.mem_cons_of_mem _ h)
theorem drop_mem {e:E}:∀ {l:List E} {x:E},x∈dropE O e l->x∈l
 |[],x,h=>by simp[dropE,hitE,hiE,loE] at h
 |y::l,x,h=>by
  rcases Int.lt_trichotomy (O.cmp e y) 0 with c|c|c
  ·rw[(cons_lt c).2.2] at h;exact h
  ·rw[(cons_eq c).2.2] at h;exact List.mem_cons_of_mem _ h
  ·rw[(cons_gt c).2.2.2.2] at h;rcases List.mem_cons.1 h with h|h
   ·rw[h];exact List.mem_cons_self
   ·exact List.mem_cons_of_mem _ (drop_mem h)
theorem put_len {e:E}:∀ {l:List E},(putE O e l).length=l.length+(if(hitE O e l).isSome then 0 else 1)
 |[]=>by simp[putE,hitE,hiE,loE]
 |y::l=>by
  rcases Int.lt_trichotomy (O.cmp e y) 0 with c|c|c
  ·rw[(cons_lt c).2.1,(cons_lt c).1];simp
  ·rw[(cons_eq c).2.1,(cons_eq c).1];simp
  ·rw[(cons_gt c).2.2.2.1,(cons_gt c).2.2.1,List.length_cons,List.length_cons,put_len];omega
theorem drop_len {e:E}:∀ {l:List E},(dropE O e l).length+(if(hitE O e l).isSome then 1 else 0)=l.length
 |[]=>by simp[dropE,hitE,hiE,loE]
 |y::l=>by
  rcases Int.lt_trichotomy (O.cmp e y) 0 with c|c|c
  ·rw[(cons_lt c).2.2,(cons_lt c).1];simp
  ·rw[(cons_eq c).2.2,(cons_eq c).1];simp
  ·have:=drop_len (e:=e) (l:=l);rw[(cons_gt c).2.2.2.2,(cons_gt c).2.2.1,List.length_cons,List.length_cons];omega
variable {S:List E->A} {good:List E->Prop} (Z:Laws O S good)
include Z
theorem put_srt {e:E}:∀ {l:List E},SrtE O l->SrtE O (putE O e l)
 |[],h=>by simp[putE,hitE,hiE,loE,SrtE]
 |y::l,h=>by
  obtain⟨h1,h2⟩:=List.pairwise_cons.1 h;rcases Int.lt_trichotomy (O.cmp e y) 0 with c|c|c
  ·rw[(cons_lt c).2.1];refine List.pairwise_cons.2 ⟨fun x hx=>?_,h⟩
   rcases List.mem_cons.1 hx with hx|hx
   ·rw[hx];exact c
   ·exact Z.trans _ _ _ c (h1 x hx)
  ·rw[(cons_eq c).2.1];exact List.pairwise_cons.2 ⟨fun x hx=>Z.eqv _ _ _ c (h1 x hx),h2⟩
  ·rw[(cons_gt c).2.2.2.1];refine List.pairwise_cons.2 ⟨fun x hx=>?_,put_srt h2⟩
   rcases put_mem hx with hx|hx
   ·rw[hx];exact(Z.swap _ _).2 c
   ·exact h1 x hx
omit Z in
theorem drop_srt {e:E}:∀ {l:List E},SrtE O l->SrtE O (dropE O e l)
 |[],h=>by simp[dropE,hitE,hiE,loE,SrtE]
 |y::l,h=>by
  obtain⟨h1,h2⟩:=List.pairwise_cons.1 h;rcases Int.lt_trichotomy (O.cmp e y) 0 with c|c|c
  ·rw[(cons_lt c).2.2];exact h
  ·rw[(cons_eq c).2.2];exact h2
  ·rw[(cons_gt c).2.2.2.2];exact List.pairwise_cons.2 ⟨fun x hx=>h1 x (drop_mem hx),drop_srt h2⟩
end
end Gv
namespace Gv
open Rx
set_option linter.unusedSectionVars false
def Vis {N:Type} (k:Nat) (m m':PM N):Prop:=∃ j:Nat,j≤k/\(m'.visits=m.visits/\j=0∨m'.visits=W (m.visits+j))
theorem Vis.trans {N:Type} {k k':Nat} {a b c:PM N} (h:Vis k a b) (h':Vis k' b c):Vis (k+k') a c:=by
 obtain⟨j,hj,e⟩:=h;obtain⟨j',hj',e'⟩:=h';refine⟨j+j',by omega,?_⟩
 rcases e with⟨e,rfl⟩|e<;>rcases e' with⟨e',rfl⟩|e'
 ·exact .inl ⟨e'.trans e,rfl⟩
 ·right;rw[e',e];congr 1;omega
 ·right;rw[e',e];congr 1
 ·right;rw[e',e,W_W];congr 1;omega
theorem Vis.mono {N:Type} {k k':Nat} {a b:PM N} (h:Vis k a b) (hk:k≤k'):Vis k' a b:=by
 obtain⟨j,hj,e⟩:=h;exact⟨j,Nat.le_trans hj hk,e⟩
section
variable {E A:Type} {O:Ops E A} {S:List E->A} {good:List E->Prop}
theorem Upd.v {R:List Ref} {k:Nat} {z:Node E A} {m m':Po E A} (h:Upd R k z m m'):Vis k m m':=h.vis
structure St (O:Ops E A) (S:List E->A) (good:List E->Prop) (n:Nat) (m:Po E A) (a b:Tr E):Prop where
 ok:POk n m
 ra:Rp O S m a
 rb:Rp O S m b
 ba:a.bal
 bb:b.bal
 sa:Srt O a.items
 sb:Srt O b.items
 nod:(a.refs++b.refs).Nodup
 held:m.held=a.items.length+b.items.length
 ga:good a.elems
 gb:good b.elems
theorem St.swap {n:Nat} {m:Po E A} {a b:Tr E} (h:St O S good n m a b):St O S good n m b a :=
 ⟨h.ok,h.rb,h.ra,h.bb,h.ba,h.sb,h.sa,(List.perm_append_comm.nodup_iff).1 h.nod,by rw[h.held];omega,h.gb,h.ga⟩
theorem St.nodA {n:Nat} {m:Po E A} {a b:Tr E} (h:St O S good n m a b):a.refs.Nodup:=(List.nodup_append.1 h.nod).1
theorem St.off {n:Nat} {m:Po E A} {a b:Tr E} (h:St O S good n m a b):∀ s,s∈b.refs->s∉a.refs:=fun s hs ha=>(List.nodup_append.1 h.nod).2.2 _ ha _ hs rfl
theorem St.look {n k:Nat} {m m':Po E A} {a b:Tr E} (h:St O S good n m a b) (hu:Upd [] k (zn O) m m'):St O S good n m' a b :=
 ⟨hu.ok h.ok,Rp.frame hu (fun s _ hs=>by cases hs) h.ra,Rp.frame hu (fun s _ hs=>by cases hs) h.rb,h.ba,h.bb,h.sa,h.sb,h.nod,by rw[hu.held];exact h.held,h.ga,h.gb⟩
theorem St.see {n:Nat} {m:Po E A} {a b:Tr E} (h:St O S good n m a b) (r:Ref):St O S good n (Gv.see m r) a b:=h.look (see_upd _ m r)
theorem St.mono {n k:Nat} {m:Po E A} {a b:Tr E} (h:St O S good n m a b) (hk:n≤k):St O S good k m a b :=
 ⟨h.ok.mono hk,h.ra,h.rb,h.ba,h.bb,h.sa,h.sb,h.nod,h.held,h.ga,h.gb⟩
theorem St.first {n k:Nat} {m m':Po E A} {a a' b:Tr E} {root:Ref} {its:List (Ref×E)} {R:List Ref} (h:St O S good n m a b) (hi:Is O S m' root its a') (hu:Upd R k (zn O) m m') (hR:∀ s,s∈R->s∈a.refs)
  (hits:∀ s,s∈a'.refs->s∈a.refs) (hnd:a'.refs.Nodup) (hlen:a'.items.length=a.items.length) (hs:SrtE O a'.elems) (hg:good a'.elems):St O S good n m' a' b :=
 ⟨hu.ok h.ok,hi.rp,Rp.frame hu (fun s hs hr=>h.off s hs (hR s hr)) h.rb,hi.bal,h.bb,Srt_map.1 hs,h.sb,
  List.nodup_append.2 ⟨hnd,(List.nodup_append.1 h.nod).2.1,fun x hx y hy e=>by subst e;exact h.off x hy (hits x hx)⟩,by rw[hu.held,h.held,hlen],hg,h.gb⟩
theorem St.empty (hg:good []) (c:Int) (n:Nat):St O S good n ⟨[],[],[],[],0,c,0⟩ .nil .nil :=
 ⟨⟨rfl,rfl,(fun f hf=>by cases hf),List.nodup_nil,Nat.zero_le _,Nat.zero_le _,(fun g hg=>by cases hg),(fun i hi=>by simp at hi),⟨by simp only;omega,by simp only;omega⟩⟩,trivial,trivial,trivial,trivial,List.Pairwise.nil,List.Pairwise.nil,List.nodup_nil,rfl,hg,hg⟩
def rf_list (x y:List (Ref×E)) (r:Ref):List Ref:=x.map Prod.fst++r::y.map Prod.fst
theorem rf_put {e:E} {r:Ref} {x:Ref×E} {l:List (Ref×E)} (h:hit O e l=some x):(lo O e l++(x.1,e)::(hi O e l).tail).map Prod.fst=l.map Prod.fst:=by
 have h1:=(hit_some h).1
 conv=>rhs;rw[← lo_hi O e l,h1]
 simp
variable (Z:Laws O S good)
include Z
theorem put_st {n K:Nat} {e:E} {m:Po E A} {a b:Tr E} (h:St O S good n m a b) (hn:n+1≤100000) (hg:good (putE O e a.elems)) (hk:a.h<K) :
  PutD O K m a.root e/\(putF O K m a.root e).1=((hitE O e a.elems).isSome||decide (m.held≠m.cap)) /\
   ∃ a',(putF O K m a.root e).2.1=a'.root/\St O S good (n+1) (putF O K m a.root e).2.2 a' b/\a'.elems=(if((hitE O e a.elems).isSome||decide (m.held≠m.cap))=true then putE O e a.elems else a.elems) /\
    Vis (32*a.h+4) m (putF O K m a.root e).2.2/\(putF O K m a.root e).2.2.cap=m.cap:=by
 have hD:=Deep_tr a h.ok h.ra hk;have hE:(hit O e a.items).map Prod.snd=hitE O e a.elems:=hitE_map e a.items;have hlo:(lo O e a.items).map Prod.snd=loE O e a.elems:=loE_map e a.items;have hhi:(hi O e a.items).map Prod.snd=hiE O e a.elems:=hiE_map e a.items;have htl:(hi O e a.items).tail.map Prod.snd=(hiE O e a.elems).tail:=hiE_tail e a.items;have hsE:=put_srt Z (e:=e) (Srt_map.2 h.sa:SrtE O a.elems);have R:=replace_tr Z (e:=e) a (k:=K) h.ok h.ra h.ba h.sa h.nodA (fun x hx=>by
  have:hitE O e a.elems=some x.2:=by rw[← hE,hx];rfl
  unfold putE at hg;rw[this] at hg;rw[gd,List.map_append,List.map_cons,hlo,htl];exact hg) hk
 cases hh:hit O e a.items with
 |some x =>
  rw[hh] at R hE;obtain⟨r1,a',r2,r3,r4⟩:=R;have hE:hitE O e a.elems=some x.2:=hE.symm;have e1:putF O K m a.root e=(true,a.root,(replace O K m a.root e).2):=by rw[putF,if_pos r1]
  have e2:a'.elems=putE O e a.elems:=by
   rw[Tr.elems,r2.its,List.map_append,List.map_cons,hlo,htl];unfold putE;rw[hE]
  have e3:a'.refs=a.refs:=by rw[Tr.refs,r2.its];exact rf_put (r:=r0) hh
  refine⟨⟨hD,fun hc=>?_⟩,by rw[e1,hE];rfl,a',by rw[e1];exact r2.root,?_,?_,?_,by rw[e1];exact r4.cap⟩
  ·have hp:=put_ok (zn O) (r4.ok h.ok) hc (fresh O e);refine⟨hp.2.mono hn,?_⟩;have hf:∀ t:Tr E,Rp O S (replace O K m a.root e).2 t->Rp O S (put (zn O) (replace O K m a.root e).2 (fresh O e)) t:=by
    intro t
    induction t with
    |nil=>exact fun _=>trivial
    |node r l y q ihl ihq =>
     intro⟨q1,q2,q3,q4⟩;have:=hp.1.old r q1;exact⟨this.1,by rw[lk,this.2];exact q2,ihl q3,ihq q4⟩
   have:=Deep_tr a' (k:=K) hp.2 (hf a' r2.rp) (by omega)
   rw[← r2.root] at this;exact this
  ·rw[e1];refine(h.first r2 r4 (fun s hs=>hs) (fun s hs=>by rw[e3] at hs;exact hs) (by rw[e3];exact h.nodA) (by rw[← Tr.refs_length,e3,Tr.refs_length]) (by rw[e2];exact hsE) (by rw[e2];exact hg)).mono (by omega)
  ·rw[e2,hE];rfl
  ·rw[e1];exact r4.v.mono (by omega)
 |none =>
  rw[hh] at R hE;obtain⟨r1,r2⟩:=R;have hE:hitE O e a.elems=none:=hE.symm;have h2:=h.look r2;have hup:putE O e a.elems=loE O e a.elems++e::hiE O e a.elems:=by unfold putE;rw[hE]
  by_cases hc:(replace O K m a.root e).2.held=(replace O K m a.root e).2.cap
  ·have hc':m.held=m.cap:=by rw[← r2.held,← r2.cap,hc]
   have ep:put (zn O) (replace O K m a.root e).2 (fresh O e)=(replace O K m a.root e).2:=by unfold put;rw[if_pos hc]
   have e1:putF O K m a.root e=(false,a.root,(replace O K m a.root e).2):=by rw[putF,if_neg (by rw[r1];decide),if_pos hc,ep]
   have e4:((hitE O e a.elems).isSome||decide (m.held≠m.cap))=false:=by rw[hE];simpa using hc'
   refine⟨⟨hD,fun hx=>absurd hc hx⟩,by rw[e1,e4],a,by rw[e1],by rw[e1];exact h2.mono (by omega),by rw[e4,if_neg (by decide)],by rw[e1];exact r2.v.mono (by omega),by rw[e1];exact r2.cap⟩
  ·have hc':m.held≠m.cap:=by rw[← r2.held,← r2.cap];exact hc
   obtain⟨p1,p2⟩:=put_ok (zn O) h2.ok hc (fresh O e);have hf:∀ t:Tr E,Rp O S (replace O K m a.root e).2 t->Rp O S (put (zn O) (replace O K m a.root e).2 (fresh O e)) t:=by
    intro t
    induction t with
    |nil=>exact fun _=>trivial
    |node r l y q ihl ihq =>
     intro⟨q1,q2,q3,q4⟩;have:=p1.old r q1;exact⟨this.1,by rw[lk,this.2];exact q2,ihl q3,ihq q4⟩
   have hnew:∀ t:Tr E,Rp O S (replace O K m a.root e).2 t->putR (zn O) (replace O K m a.root e).2∉t.refs:=fun t ht hr=>by
    have:=ht.has _ hr;rw[p1.new] at this;cases this
   have hnd:(putR (zn O) (replace O K m a.root e).2::a.refs).Nodup:=List.nodup_cons.2 ⟨hnew a h2.ra,h.nodA⟩;obtain⟨t',t1,t2,t3,t4⟩:=hang_tr Z (f:=putR (zn O) (replace O K m a.root e).2) (e:=e) a (k:=K) p2 (hf a h2.ra) h.ba h.sa hnd p1.has (by rw[lk,p1.look];rfl) hh
    (by rw[gd,List.map_append,List.map_cons,hlo,hhi,← hup];exact hg) hk
   have e1:putF O K m a.root e=(true,(hang O K (put (zn O) (replace O K m a.root e).2 (fresh O e)) a.root (putR (zn O) (replace O K m a.root e).2) e).1,(hang O K (put (zn O) (replace O K m a.root e).2 (fresh O e)) a.root (putR (zn O) (replace O K m a.root e).2) e).2):=by
    rw[putF,if_neg (by rw[r1];decide),if_neg hc]
   have e4:((hitE O e a.elems).isSome||decide (m.held≠m.cap))=true:=by rw[hE];simpa using hc'
   have e2:t'.elems=putE O e a.elems:=by rw[Tr.elems,t1.its,List.map_append,List.map_cons,hlo,hhi,hup]
   have e5:t'.refs=rf_list (lo O e a.items) (hi O e a.items) (putR (zn O) (replace O K m a.root e).2):=by rw[Tr.refs,t1.its,List.map_append,List.map_cons];rfl
   refine⟨⟨hD,fun _=>⟨p2.mono hn,Deep_tr a p2 (hf a h2.ra) hk⟩⟩,by rw[e1,e4],t',by rw[e1];exact t1.root,?_,by rw[e4,if_pos rfl];exact e2,?_,by rw[e1];exact t4.cap.trans (p1.cap.trans r2.cap)⟩
   ·rw[e1];have hrf:=rf_lo_hi (O:=O) e a.items;have hmem:∀ s,s∈t'.refs↔s=putR (zn O) (replace O K m a.root e).2∨s∈a.refs:=fun s=>by
     rw[e5,Tr.refs,← hrf];unfold rf_list;simp only[List.mem_append,List.mem_cons]
     constructor
     ·rintro (h|h|h)<;>simp[h]
     ·rintro (h|h|h)<;>simp[h]
    refine⟨t4.ok p2,t1.rp,Rp.frame t4 (fun s hs hr=>?_) (hf b h2.rb),t1.bal,h.bb,Srt_map.1 (by rw[show t'.items.map Prod.snd=t'.elems from rfl,e2];exact hsE),h.sb,?_,?_,by rw[e2];exact hg,h.gb⟩
    ·rcases List.mem_cons.1 hr with hr|hr
     ·exact hnew b h2.rb (by rw[← hr];exact hs)
     ·exact h.off s hs hr
    ·refine List.nodup_append.2 ⟨?_,(List.nodup_append.1 h.nod).2.1,fun x hx y hy e=>?_⟩
     ·rw[e5];unfold rf_list;refine(List.perm_middle.nodup_iff).2 ?_;rw[hrf];exact hnd
     ·subst e;rcases(hmem x).1 hx with hr|hr
      ·exact hnew b h2.rb (by rw[← hr];exact hy)
      ·exact h.off x hy hr
    ·have hl:t'.items.length=a.items.length+1:=by
      have:=put_len (O:=O) (e:=e) (l:=a.elems);rw[hE] at this;rw[← Tr.elems_length,e2,this,Tr.elems_length]
      rfl
     rw[t4.held,p1.held,h2.held,hl];omega
   ·rw[e1];have:Vis 0 (replace O K m a.root e).2 (put (zn O) (replace O K m a.root e).2 (fresh O e)):=⟨0,Nat.le_refl _,.inl ⟨p1.vis,rfl⟩⟩;exact((r2.v.trans this).trans t4.v).mono (by omega)
end
end Gv
namespace Gv
open Rx
set_option linter.unusedSectionVars false
section
variable {E A:Type} {O:Ops E A} {S:List E->A} {good:List E->Prop}
theorem rf_drop {e:E} {x:Ref×E} {l:List (Ref×E)} (h:hit O e l=some x):(x.1::rf (lo O e l++(hi O e l).tail)).Perm (l.map Prod.fst):=by
 have h1:=(hit_some h).1;have h2:l.map Prod.fst=(lo O e l).map Prod.fst++x.1::(hi O e l).tail.map Prod.fst:=by
  conv=>lhs;rw[← lo_hi O e l,h1]
  simp
 rw[h2];unfold rf;rw[List.map_append];exact List.perm_middle.symm
theorem drop_none {m:Po E A} {z:Node E A} {r:Ref} (h:has m r=false):drop z m r=m:=by unfold drop;rw[if_neg (by rw[h];decide)]
variable (Z:Laws O S good)
include Z
theorem drop_st {n K:Nat} {e:E} {m:Po E A} {a b:Tr E} (h:St O S good n m a b) (hg:good (loE O e a.elems++(hiE O e a.elems).tail)) (hk:2*a.h<K) :
  PickD O K K m a.root e/\(dropF O K m a.root e).1=(hitE O e a.elems).getD O.e0/\(dropF O K m a.root e).2.1=(hitE O e a.elems).isSome /\
   ∃ a',(dropF O K m a.root e).2.2.1=a'.root/\St O S good (n+1) (dropF O K m a.root e).2.2.2 a' b/\a'.elems=dropE O e a.elems /\
    Vis (120*a.h+5) m (dropF O K m a.root e).2.2.2/\(dropF O K m a.root e).2.2.2.cap=m.cap:=by
 have hE:(hit O e a.items).map Prod.snd=hitE O e a.elems:=hitE_map e a.items;have hlo:(lo O e a.items).map Prod.snd=loE O e a.elems:=loE_map e a.items;have htl:(hi O e a.items).tail.map Prod.snd=(hiE O e a.elems).tail:=hiE_tail e a.items;have hsE:=drop_srt (e:=e) (Srt_map.2 h.sa:SrtE O a.elems);obtain⟨R1,R⟩:=pick_tr Z (K:=K) (e:=e) a (k:=K) h.ok h.ra h.ba h.sa h.nodA (by rw[gd,List.map_append,hlo,htl];exact hg) (by omega) hk
 refine⟨R1,?_⟩;unfold dropF;cases hh:hit O e a.items with
 |none =>
  rw[hh] at R hE;obtain⟨r1,r2,r3⟩:=R;have hE:hitE O e a.elems=none:=hE.symm;have h2:=h.look r3;have hz:=h2.ok.z0;have h0:lk O (pick O K K m a.root e).2.2 r0=zn O:=by unfold lk look;rw[if_neg (by rw[hz];decide)]
  rw[r1,r2,h0,hz,drop_none hz,hE];refine⟨rfl,rfl,a,rfl,h2.mono (by omega),?_,r3.v.mono (by omega),r3.cap⟩
  unfold dropE;rw[hE]
 |some x =>
  rw[hh] at R hE;obtain⟨r1,t,r2,r3,r4,r5⟩:=R;have hE:hitE O e a.elems=some x.2:=hE.symm;have hp:=rf_drop hh;have hnx:x.1∉rf (lo O e a.items++(hi O e a.items).tail)/\(rf (lo O e a.items++(hi O e a.items).tail)).Nodup:=List.nodup_cons.1 ((hp.nodup_iff).2 h.nodA);have hmem:∀ s,s∈a.refs↔s=x.1∨s∈rf (lo O e a.items++(hi O e a.items).tail):=fun s=>by
   rw[Tr.refs,← hp.mem_iff,List.mem_cons]
  have hxm:=(hit_some hh).2.2;have hhx:has m x.1=true:=h.ra.has _ (List.mem_map_of_mem hxm);have hhx':has (pick O K K m a.root e).2.2 x.1=true:=by rw[r5.has];exact hhx
  have ho:=r5.ok h.ok;obtain⟨d1,d2,d3,d4,d5,d6⟩:=drop_ok (zn O) ho hhx';have hf:∀ u:Tr E,x.1∉u.refs->Rp O S (pick O K K m a.root e).2.2 u->Rp O S (drop (zn O) (pick O K K m a.root e).2.2 x.1) u:=by
   intro u
   induction u with
   |nil=>exact fun _ _=>trivial
   |node r l y q ihl ihq =>
    intro hx ⟨q1,q2,q3,q4⟩;rw[Tr.refs_node] at hx;simp only[List.mem_append,List.mem_cons,not_or] at hx;have:=d2 r (fun e=>hx.2.1 e.symm)
    exact⟨by rw[this.1];exact q1,by rw[lk,this.2];exact q2,ihl hx.1 q3,ihq hx.2.2 q4⟩
  have et:t.refs=rf (lo O e a.items++(hi O e a.items).tail):=by rw[Tr.refs,r2.its]
  have ee:t.elems=dropE O e a.elems:=by
   rw[Tr.elems,r2.its,List.map_append,hlo,htl];unfold dropE;rw[hE]
  rw[r1];have hel:(lk O (pick O K K m a.root e).2.2 x.1).e=x.2:=by
   have:lk O (pick O K K m a.root e).2.2 x.1=lk O m x.1:=r5.look _ hnx.1;rw[this];exact h.ra.elem x hxm
  refine⟨by rw[hel,hE];rfl,by rw[hhx',hE];rfl,t,r2.root,?_,ee,?_,by rw[d5];exact r5.cap⟩
  ·refine⟨d1,hf t (by rw[et];exact hnx.1) r2.rp,hf b (fun hb=>h.off _ hb ((hmem _).2 (.inl rfl))) (Rp.frame r5 (fun s hs hr=>h.off s hs ((hmem s).2 (.inr hr))) h.rb),r2.bal,h.bb,
    Srt_map.1 (by rw[show t.items.map Prod.snd=t.elems from rfl,ee];exact hsE),h.sb,?_,?_,?_,h.gb⟩
   ·exact List.nodup_append.2 ⟨by rw[et];exact hnx.2,(List.nodup_append.1 h.nod).2.1,fun y hy z hz e=>by subst e;exact h.off y hz ((hmem y).2 (.inr (by rw[← et];exact hy)))⟩
   ·have hl:=drop_len (O:=O) (e:=e) (l:=a.elems);rw[hE,← ee,Tr.elems_length,Tr.elems_length] at hl;rw[d4,r5.held,h.held];simp only[Option.isSome_some,if_true] at hl;omega
   ·rw[Tr.elems,r2.its,List.map_append,hlo,htl];exact hg
  ·have:Vis 1 (pick O K K m a.root e).2.2 (drop (zn O) (pick O K K m a.root e).2.2 x.1):=⟨1,Nat.le_refl _,.inr d6⟩;exact(r5.v.trans this).mono (by omega)
theorem split_st {n K:Nat} {e:E} {m:Po E A} {a:Tr E} (h:St O S good n m a .nil) (hk:2*a.items.length<K) :
  CutD O K K m a.root e/\∃ x y,(cutF O K K m a.root e).1=x.root/\(cutF O K K m a.root e).2.1=y.root/\St O S good n (cutF O K K m a.root e).2.2 x y/\x.elems=loE O e a.elems/\y.elems=hiE O e a.elems/\(cutF O K K m a.root e).2.2.cap=m.cap:=by
 have hh:=a.h_le;obtain⟨r1,x,y,r2,r3,kk,r4⟩:=cut_tr Z (K:=K) (e:=e) a (k:=K) h.ok h.ra h.ba h.sa h.nodA h.ga (by omega) hk
 have ex:x.elems=loE O e a.elems:=by rw[Tr.elems,r2.its];exact loE_map e a.items
 have ey:y.elems=hiE O e a.elems:=by rw[Tr.elems,r3.its];exact hiE_map e a.items
 have hsE:SrtE O a.elems:=Srt_map.2 h.sa;have hle:=loE_hiE (O:=O) e a.elems;rw[← hle] at hsE;have hg:=h.ga;rw[← hle] at hg;have hrf:=rf_lo_hi (O:=O) e a.items;refine⟨r1,x,y,r2.root,r3.root,⟨r4.ok h.ok,r2.rp,r3.rp,r2.bal,r3.bal,Srt_map.1 ?_,Srt_map.1 ?_,?_,?_,?_,?_⟩,ex,ey,r4.cap⟩
 ·rw[show x.items.map Prod.snd=x.elems from rfl,ex];exact(List.pairwise_append.1 hsE).1
 ·rw[show y.items.map Prod.snd=y.elems from rfl,ey];exact(List.pairwise_append.1 hsE).2.1
 ·rw[Tr.refs,Tr.refs,r2.its,r3.its,hrf];exact h.nodA
 ·rw[r4.held,h.held,r2.its,r3.its];have:=congrArg List.length (lo_hi O e a.items);rw[List.length_append] at this;simp only[Tr.items,List.length_nil];omega
 ·rw[ex];exact Z.left _ _ hg
 ·rw[ey];exact Z.right _ _ hg
end
end Gv
namespace Gv
open Rx
set_option linter.unusedSectionVars false
theorem Tr.bal_size {E:Type}:∀ t:Tr E,t.bal->2 ^ (t.h / 2)≤t.items.length+1
 |.nil,_=>by simp[Tr.h,Tr.items]
 |.node r l e q,⟨h1,h2,h3,h4⟩=>by
  have i1:=bal_size l h1;have i2:=bal_size q h2;simp only[Tr.h,Tr.items,List.length_append,List.length_cons]
  by_cases c:max l.h q.h=0
  ·rw[c];simp
  ·have k1:(1+max l.h q.h) / 2=(max l.h q.h-1) / 2+1:=by omega
   rw[k1,Nat.pow_succ];have k2:(max l.h q.h-1) / 2≤l.h / 2:=by omega
   have k3:(max l.h q.h-1) / 2≤q.h / 2:=by omega
   have j1:2 ^ ((max l.h q.h-1) / 2)≤2 ^ (l.h / 2):=Nat.pow_le_pow_right (by omega) k2
   have j2:2 ^ ((max l.h q.h-1) / 2)≤2 ^ (q.h / 2):=Nat.pow_le_pow_right (by omega) k3
   omega
def hgt (n:Nat):Nat:=2+3*Nat.log2 (n+1)
theorem Tr.h_hgt {E:Type} (t:Tr E) (h:t.bal):t.h≤hgt t.items.length:=by
 have h1:=t.bal_size h;have h2:t.h / 2≤Nat.log2 (t.items.length+1):=(Nat.le_log2 (by omega)).2 h1
 unfold hgt;omega
theorem hgt_mono {a b:Nat} (h:a≤b):hgt a≤hgt b:=by
 unfold hgt;have:Nat.log2 (a+1)≤Nat.log2 (b+1):=(Nat.le_log2 (by omega)).2 (Nat.le_trans (Nat.log2_self_le (by omega)) (by omega))
 omega
section
variable {E A:Type} {O:Ops E A} {S:List E->A} {good:List E->Prop}
def fndE (O:Ops E A) (e:E) (l:List E):E×Bool:=((hitE O e l).getD O.e0,(hitE O e l).isSome)
def nthE (O:Ops E A) (i:Int) (l:List E):E×Bool:=if 0≤i/\i<l.length then(l.getD i.toNat O.e0,true) else(O.e0,false)
structure Same (O:Ops E A) (S:List E->A) (good:List E->Prop) (n k:Nat) (m m':Po E A) (a b:Tr E):Prop where
 st:St O S good n m' a b
 vis:Vis k m m'
 cap:m'.cap=m.cap
theorem St.up {n k:Nat} {m m':Po E A} {a b:Tr E} {r:Ref} (h:St O S good n m a b) (hu:Upd [] k (zn O) (Gv.see m r) m'):Same O S good n (k+1) m m' a b:=by
 have:=(see_upd (zn O) m r).to hu (S:=[]) (fun s hs=>by simp at hs) (Nat.le_of_eq (Nat.add_comm 1 k))
 exact⟨h.look this,this.v,this.cap⟩
theorem St.seen {n:Nat} {m:Po E A} {a b:Tr E} (h:St O S good n m a b) (r:Ref):Same O S good n 1 m (Gv.see m r) a b:=h.up (Upd.refl _ _ _ _)
theorem Same.mono {n k k':Nat} {m m':Po E A} {a b:Tr E} (h:Same O S good n k m m' a b) (hk:k≤k'):Same O S good n k' m m' a b:=⟨h.st,h.vis.mono hk,h.cap⟩
theorem St.lk {n:Nat} {m:Po E A} {a b:Tr E} (h:St O S good n m a b):Gv.lk O m a.root=nd O S a:=h.ra.root h.ok
theorem St.hh {n:Nat} {m:Po E A} {a b:Tr E} (h:St O S good n m a b):(Gv.lk O m a.root).h=(a.h:Int):=by rw[h.lk,nd_h]
variable (Z:Laws O S good)
include Z
theorem St.nn {n:Nat} {m:Po E A} {a b:Tr E} (h:St O S good n m a b):(Gv.lk O m a.root).all.n=(a.elems.length:Int):=by rw[h.lk,nd_all Z.nil,Tr.elems_length]
theorem find_st {n K:Nat} {e:E} {m:Po E A} {a b:Tr E} (h:St O S good n m a b) (hk:a.h<K) :
  FindE O K (Gv.see m a.root) (Gv.lk O m a.root) e/\∃ m',find O K (Gv.see m a.root) (Gv.lk O m a.root) e=(fndE O e a.elems,m')/\Same O S good n (a.h+1) m m' a b:=by
 have h2:=h.see a.root;obtain⟨r1,r2,r3⟩:=find_tr Z (e:=e) a (k:=K) h2.ok h2.ra h.sa hk;rw[h.lk];refine⟨r1,_,Prod.ext ?_ rfl,h.up r3⟩;rw[r2];have hE:=hitE_map (O:=O) e a.items;unfold fndE;rw[show a.elems=a.items.map Prod.snd from rfl,← hE]
 cases hit O e a.items<;>rfl
theorem rank_st {n K:Nat} {e:E} {m:Po E A} {a b:Tr E} (h:St O S good n m a b) (hk:a.h<K) :
  RankE O K (Gv.see m a.root) (Gv.lk O m a.root) e 0/\∃ m',rank O K (Gv.see m a.root) (Gv.lk O m a.root) e 0=(((loE O e a.elems).length:Int),m')/\Same O S good n (2*a.h+1) m m' a b:=by
 have h2:=h.see a.root;have hl:=Z.len _ h.ga;rw[Tr.elems_length] at hl;obtain⟨r1,r2,r3⟩:=rank_tr Z (e:=e) a (k:=K) (c:=0) h2.ok h2.ra h.sa hk (Int.le_refl _) (by omega)
 rw[h.lk];refine⟨r1,_,Prod.ext ?_ rfl,h.up r3⟩;rw[r2,show a.elems=a.items.map Prod.snd from rfl,← loE_map,List.length_map]
 omega
theorem at_st {n K:Nat} {i:Int} {m:Po E A} {a b:Tr E} (h:St O S good n m a b) (hk:a.h<K) :
  AtD O K m a.root i/\∃ m',atF O K m a.root i=(nthE O i a.elems,m')/\Same O S good n (2*a.h+1) m m' a b:=by
 have h2:=h.see a.root;have hl:=Z.len _ h.ga;have hn:=h.nn Z;unfold AtD atF nthE;rw[hn]
 by_cases c:i<0∨i≥(a.elems.length:Int)
 ·rw[if_pos c,if_neg (by omega)]
  exact⟨fun h3 h4=>by omega,_,rfl,(h.seen _).mono (by omega)⟩
 ·rw[if_neg c,if_pos (by omega)]
  rw[Tr.elems_length] at hl c;obtain⟨r1,r2,r3⟩:=nth_tr Z a (k:=K) (i:=i.toNat) h2.ok h2.ra hl hk (by omega)
  have e:((i.toNat:Nat):Int)=i:=by omega
  rw[e] at r1 r2 r3;rw[h.lk];exact⟨fun _ _=>r1,_,Prod.ext (by rw[r2]) rfl,h.up r3⟩
theorem bet_st {n K:Nat} {f u:Int} {m:Po E A} {a b:Tr E} (h:St O S good n m a b) (hk:a.h<K) :
  BetE O K (Gv.see m a.root) (Gv.lk O m a.root) f u/\∃ m',between O K (Gv.see m a.root) (Gv.lk O m a.root) f u=(⟨(sub a.elems f.toNat u.toNat).length,S (sub a.elems f.toNat u.toNat)⟩,m')/\Same O S good n (4*a.h+1) m m' a b:=by
 have h2:=h.see a.root;obtain⟨r1,r2,r3⟩:=between_tr Z (f:=f) (u:=u) a (k:=K) h2.ok h2.ra h.ga hk;rw[h.lk];exact⟨r1,_,Prod.ext r2 rfl,(h.up r3).mono (by have:=(cost_le a.h a.elems.length f u).1;omega)⟩
theorem all_st {n K:Nat} {m:Po E A} {a b:Tr E} (h:St O S good n m a b) (hk:a.h<K) :
  Deep O K m a.root/\(Gv.lk O m a.root).all.n=(a.elems.length:Int)/\∃ m' kk,gather O K (Gv.see m a.root) a.root=(a.elems,m')/\Same O S good n kk m m' a b:=by
 have h2:=h.see a.root;obtain⟨r1,kk,r2⟩:=gather_tr a (k:=K) h2.ok h2.ra hk;exact⟨Deep_tr a h.ok h.ra hk,h.nn Z,_,_,Prod.ext r1 rfl,h.up r2⟩
theorem deepN_st {n K:Nat} {m:Po E A} {a b:Tr E} (h:St O S good n m a b) (hk:a.h<K):DeepN O K (Gv.see m a.root) (Gv.lk O m a.root) :=
 DeepN_of (Deep_tr a h.ok h.ra hk) (fun s=>lk_see ..)
theorem first_st {n K:Nat} {f:Int} {may:A->A->Bool} {P:Nat->Bool} {m:Po E A} {a b:Tr E} (h:St O S good n m a b) (hA:Asks O S may P a.elems) (hk:a.h<K) :
  DeepN O K (Gv.see m a.root) (Gv.lk O m a.root)/\∃ r m' kk,first O may K (Gv.see m a.root) (Gv.lk O m a.root) ⟨0,O.a0⟩ f=(r,m')/\FirstIs P 0 a.elems.length f r/\Same O S good n kk m m' a b:=by
 have h2:=h.see a.root;obtain⟨r1,kk,r2⟩:=first_tr Z (f:=f) hA h.ga a (k:=K) (p:=[]) (s:=[]) h2.ok h2.ra (by simp) hk
 have e0:(([]:List E).length:Int)=0:=rfl;rw[e0,Z.nil,List.length_nil,Nat.zero_add] at r1;rw[e0,Z.nil] at r2;refine⟨deepN_st Z h hk,_,_,_,rfl,?_,h.up (r:=a.root) (k:=kk) ?_⟩
 ·rw[h.lk];exact r1
 ·rw[h.lk];exact r2
theorem last_st {n K:Nat} {f:Int} {may:A->A->Bool} {P:Nat->Bool} {m:Po E A} {a b:Tr E} (h:St O S good n m a b) (hA:Asks O S may P a.elems) (hk:a.h<K) :
  DeepN O K (Gv.see m a.root) (Gv.lk O m a.root)/\∃ r m' kk,last O may K (Gv.see m a.root) (Gv.lk O m a.root) ⟨0,O.a0⟩ f=(r,m')/\LastIs P 0 a.elems.length f r/\Same O S good n kk m m' a b:=by
 have h2:=h.see a.root;obtain⟨r1,kk,r2⟩:=last_tr Z (u:=f) hA h.ga a (k:=K) (p:=[]) (s:=[]) h2.ok h2.ra (by simp) hk
 have e0:(([]:List E).length:Int)=0:=rfl;rw[e0,Z.nil,List.length_nil,Nat.zero_add] at r1;rw[e0,Z.nil] at r2;refine⟨deepN_st Z h hk,_,_,_,rfl,?_,h.up (r:=a.root) (k:=kk) ?_⟩
 ·rw[h.lk];exact r1
 ·rw[h.lk];exact r2
theorem put_st' {n K:Nat} {e:E} {m:Po E A} {a b:Tr E} (h:St O S good n m a b) (hn:n+1≤100000) (hg:good (putE O e a.elems)) (hk:a.h<K) :
  PutD O K m a.root e/\∃ a' m',putF O K m a.root e=(((hitE O e a.elems).isSome||decide (m.held≠m.cap)),a'.root,m')/\St O S good (n+1) m' a' b /\
   a'.elems=(if((hitE O e a.elems).isSome||decide (m.held≠m.cap))=true then putE O e a.elems else a.elems)/\Vis (32*a.h+4) m m'/\m'.cap=m.cap:=by
 obtain⟨r1,r2,a',r3,r4,r5,r6,r7⟩:=put_st Z h hn hg hk;exact⟨r1,a',_,Prod.ext r2 (Prod.ext r3 rfl),r4,r5,r6,r7⟩
theorem drop_st' {n K:Nat} {e:E} {m:Po E A} {a b:Tr E} (h:St O S good n m a b) (hg:good (loE O e a.elems++(hiE O e a.elems).tail)) (hk:2*a.h<K) :
  PickD O K K m a.root e/\∃ a' m',dropF O K m a.root e=((fndE O e a.elems).1,(fndE O e a.elems).2,a'.root,m')/\St O S good (n+1) m' a' b/\a'.elems=dropE O e a.elems/\Vis (120*a.h+5) m m'/\m'.cap=m.cap:=by
 obtain⟨r1,r2,r3,a',r4,r5,r6,r7,r8⟩:=drop_st Z h hg hk;exact⟨r1,a',_,Prod.ext r2 (Prod.ext r3 (Prod.ext r4 rfl)),r5,r6,r7,r8⟩
theorem split_st' {n K:Nat} {e:E} {m:Po E A} {a:Tr E} (h:St O S good n m a .nil) (hk:2*a.items.length<K) :
  CutD O K K m a.root e/\∃ x y m',cutF O K K m a.root e=(x.root,y.root,m')/\St O S good n m' x y/\x.elems=loE O e a.elems/\y.elems=hiE O e a.elems/\m'.cap=m.cap:=by
 obtain⟨r1,x,y,r2,r3,r4,r5,r6,r7⟩:=split_st Z (e:=e) h hk;exact⟨r1,x,y,_,Prod.ext r2 (Prod.ext r3 rfl),r4,r5,r6,r7⟩
end
end Gv
namespace Gv
open Rx
set_option linter.unusedSectionVars false
structure Kd (E A:Type) where
 O:Ops E A
 S:List E->A
 good:List E->Prop
 dec:∀ l,Decidable (good l)
 Z:Laws O S good
 short:∀ x,good x->x.length≤1000
 gnil:good []
 gcut:∀ x y,good (x++y)->good (x++y.tail)
instance {E A:Type} (k:Kd E A) (l:List E):Decidable (k.good l):=k.dec l
theorem h_elems {E:Type} (a:Tr E):a.h≤a.elems.length:=by rw[Tr.elems_length];exact a.h_le
theorem nil_elems {E:Type} {t:Tr E} (h:t.elems=[]):t=.nil:=by
 cases t with
 |nil=>rfl
 |node r l e q=>rw[Tr.elems_node] at h;simp at h
section
variable {E A:Type}
def P2 (k:Kd E A) (n:Nat) (m:Po E A) (ra rb:Ref) (la lb:List E) (c:Int):Prop:=∃ a b:Tr E,a.root=ra/\b.root=rb/\St k.O k.S k.good n m a b/\a.elems=la/\b.elems=lb/\m.cap=c
abbrev P1 (k:Kd E A) (n:Nat) (m:Po E A) (r:Ref) (l:List E) (c:Int):Prop:=P2 k n m r r0 l [] c
structure Sm (k:Kd E A) (n v:Nat) (m m':Po E A) (ra rb:Ref) (la lb:List E) (c:Int):Prop where
 p:P2 k n m' ra rb la lb c
 vis:Vis v m m'
variable {k:Kd E A} {n:Nat} {m:Po E A} {ra rb:Ref} {la lb:List E} {c:Int}
theorem sm_of {v:Nat} {a b:Tr E} {m':Po E A} (h:Same k.O k.S k.good n v m m' a b) (h6:m.cap=c):Sm k n v m m' a.root b.root a.elems b.elems c :=
 ⟨⟨a,b,rfl,rfl,h.st,rfl,rfl,h.cap.trans h6⟩,h.vis⟩
namespace P2
theorem swap (h:P2 k n m ra rb la lb c):P2 k n m rb ra lb la c:=by
 obtain⟨a,b,h1,h2,h3,h4,h5,h6⟩:=h;exact⟨b,a,h2,h1,h3.swap,h5,h4,h6⟩
theorem mono {q:Nat} (h:P2 k n m ra rb la lb c) (hk:n≤q):P2 k q m ra rb la lb c:=by
 obtain⟨a,b,h1,h2,h3,h4,h5,h6⟩:=h;exact⟨a,b,h1,h2,h3.mono hk,h4,h5,h6⟩
theorem empty (k:Kd E A) (c:Int):P1 k 0 ⟨[],[],[],[],0,c,0⟩ r0 [] c :=
 ⟨.nil,.nil,rfl,rfl,St.empty k.gnil c 0,rfl,rfl,rfl⟩
theorem upd {m':Po E A} (h:P2 k n m ra rb la lb c) (hu:∃ v,Upd [] v (zn k.O) m m'):P2 k n m' ra rb la lb c:=by
 obtain⟨a,b,h1,h2,h3,h4,h5,h6⟩:=h;obtain⟨v,hu⟩:=hu;exact⟨a,b,h1,h2,h3.look hu,h4,h5,hu.cap.trans h6⟩
theorem ok (h:P2 k n m ra rb la lb c) (hn:n≤100000):POk 100000 m:=by
 obtain⟨a,b,h1,h2,h3,h4,h5,h6⟩:=h;exact h3.ok.mono hn
theorem good (h:P2 k n m ra rb la lb c):k.good la:=by
 obtain⟨a,b,h1,h2,h3,h4,h5,h6⟩:=h;rw[← h4];exact h3.ga
theorem srt (h:P2 k n m ra rb la lb c):SrtE k.O la:=by
 obtain⟨a,b,h1,h2,h3,h4,h5,h6⟩:=h;rw[← h4];exact Srt_map.2 h3.sa
theorem len (h:P2 k n m ra rb la lb c):la.length≤1000:=k.short _ h.good
theorem held (h:P2 k n m ra rb la lb c):m.held=la.length+lb.length:=by
 obtain⟨a,b,h1,h2,h3,h4,h5,h6⟩:=h;rw[h3.held,← h4,← h5,Tr.elems_length,Tr.elems_length]
theorem cap (h:P2 k n m ra rb la lb c):m.cap=c:=by
 obtain⟨a,b,h1,h2,h3,h4,h5,h6⟩:=h;exact h6
theorem seen (h:P2 k n m ra rb la lb c) (r:Ref):Sm k n 1 m (see m r) ra rb la lb c:=by
 obtain⟨a,b,rfl,rfl,h3,rfl,rfl,h6⟩:=h;exact sm_of (h3.seen r) h6
theorem nn (h:P2 k n m ra rb la lb c):(lk k.O m ra).all.n=(la.length:Int):=by
 obtain⟨a,b,rfl,rfl,h3,rfl,rfl,h6⟩:=h;exact h3.nn k.Z
theorem height (h:P2 k n m ra rb la lb c):∃ H:Nat,(lk k.O m ra).h=(H:Int)/\H≤hgt la.length:=by
 obtain⟨a,b,rfl,rfl,h3,rfl,rfl,h6⟩:=h;refine⟨a.h,h3.hh,?_⟩;rw[Tr.elems_length];exact a.h_hgt h3.ba
theorem put {K:Nat} {e:E} (h:P2 k n m ra rb la lb c) (hn:n+1≤100000) (hg:k.good (putE k.O e la)) (hk:la.length<K) :
  PutD k.O K m ra e/\∃ r' m',putF k.O K m ra e=(((hitE k.O e la).isSome||decide (((la.length+lb.length:Nat):Int)≠c)),r',m') /\
   P2 k (n+1) m' r' rb (if((hitE k.O e la).isSome||decide (((la.length+lb.length:Nat):Int)≠c))=true then putE k.O e la else la) lb c/\Vis (32*hgt la.length+4) m m':=by
 have hh:=h.held;obtain⟨a,b,rfl,rfl,h3,rfl,rfl,h6⟩:=h;obtain⟨d,a',m',e1,e2,e3,e4,e5⟩:=put_st' k.Z (e:=e) h3 hn hg (Nat.lt_of_le_of_lt (h_elems a) hk);have hb:((hitE k.O e a.elems).isSome||decide (m.held≠m.cap))=((hitE k.O e a.elems).isSome||decide (((a.elems.length+b.elems.length:Nat):Int)≠c)):=by
  rw[hh,h6];push_cast;rfl
 rw[hb] at e1 e3;exact⟨d,a'.root,m',e1,⟨a',b,rfl,rfl,e2,e3,rfl,e5.trans h6⟩,e4.mono (by have:=a.h_hgt h3.ba;rw[Tr.elems_length];omega)⟩
theorem drop {K:Nat} {e:E} (h:P2 k n m ra rb la lb c) (hk:2*la.length<K) :
  PickD k.O K K m ra e/\∃ r' m',dropF k.O K m ra e=((fndE k.O e la).1,(fndE k.O e la).2,r',m')/\P2 k (n+1) m' r' rb (dropE k.O e la) lb c/\Vis (120*hgt la.length+5) m m':=by
 obtain⟨a,b,rfl,rfl,h3,rfl,rfl,h6⟩:=h;have hh:=h_elems a;obtain⟨d,a',m',e1,e2,e3,e4,e5⟩:=drop_st' k.Z (K:=K) (e:=e) h3 (k.gcut _ _ (by rw[loE_hiE];exact h3.ga)) (by omega)
 exact⟨d,a'.root,m',e1,⟨a',b,rfl,rfl,e2,e3,rfl,e5.trans h6⟩,e4.mono (by have:=a.h_hgt h3.ba;rw[Tr.elems_length];omega)⟩
theorem find {K:Nat} {e:E} (h:P2 k n m ra rb la lb c) (hk:la.length<K) :
  FindE k.O K (see m ra) (lk k.O m ra) e/\∃ m',Gv.find k.O K (see m ra) (lk k.O m ra) e=(fndE k.O e la,m')/\Sm k n (hgt la.length+1) m m' ra rb la lb c:=by
 obtain⟨a,b,rfl,rfl,h3,rfl,rfl,h6⟩:=h;obtain⟨d,m',e1,e2⟩:=find_st k.Z (K:=K) (e:=e) h3 (Nat.lt_of_le_of_lt (h_elems a) hk);exact⟨d,m',e1,sm_of (e2.mono (by have:=a.h_hgt h3.ba;rw[Tr.elems_length];omega)) h6⟩
theorem rank {K:Nat} {e:E} (h:P2 k n m ra rb la lb c) (hk:la.length<K) :
  RankE k.O K (see m ra) (lk k.O m ra) e 0/\∃ m',Gv.rank k.O K (see m ra) (lk k.O m ra) e 0=(((loE k.O e la).length:Int),m')/\Sm k n (2*hgt la.length+1) m m' ra rb la lb c:=by
 obtain⟨a,b,rfl,rfl,h3,rfl,rfl,h6⟩:=h;obtain⟨d,m',e1,e2⟩:=rank_st k.Z (K:=K) (e:=e) h3 (Nat.lt_of_le_of_lt (h_elems a) hk);exact⟨d,m',e1,sm_of (e2.mono (by have:=a.h_hgt h3.ba;rw[Tr.elems_length];omega)) h6⟩
theorem at_ {K:Nat} {i:Int} (h:P2 k n m ra rb la lb c) (hk:la.length<K) :
  AtD k.O K m ra i/\∃ m',atF k.O K m ra i=(nthE k.O i la,m')/\Sm k n (2*hgt la.length+1) m m' ra rb la lb c:=by
 obtain⟨a,b,rfl,rfl,h3,rfl,rfl,h6⟩:=h;obtain⟨d,m',e1,e2⟩:=at_st k.Z (K:=K) (i:=i) h3 (Nat.lt_of_le_of_lt (h_elems a) hk);exact⟨d,m',e1,sm_of (e2.mono (by have:=a.h_hgt h3.ba;rw[Tr.elems_length];omega)) h6⟩
theorem bet {K:Nat} {f u:Int} (h:P2 k n m ra rb la lb c) (hk:la.length<K) :
  BetE k.O K (see m ra) (lk k.O m ra) f u/\∃ m',between k.O K (see m ra) (lk k.O m ra) f u=(⟨(sub la f.toNat u.toNat).length,k.S (sub la f.toNat u.toNat)⟩,m')/\Sm k n (4*hgt la.length+1) m m' ra rb la lb c:=by
 obtain⟨a,b,rfl,rfl,h3,rfl,rfl,h6⟩:=h;obtain⟨d,m',e1,e2⟩:=bet_st k.Z (K:=K) (f:=f) (u:=u) h3 (Nat.lt_of_le_of_lt (h_elems a) hk);exact⟨d,m',e1,sm_of (e2.mono (by have:=a.h_hgt h3.ba;rw[Tr.elems_length];omega)) h6⟩
theorem all {K:Nat} (h:P2 k n m ra rb la lb c) (hk:la.length<K) :
  (Deep k.O K m ra/\(lk k.O m ra).all.n=(gather k.O K (see m ra) ra).1.length/\(gather k.O K (see m ra) ra).1.length<900000)/\∃ m',gather k.O K (see m ra) ra=(la,m')/\P2 k n m' ra rb la lb c:=by
 have hl:=h.len;obtain⟨a,b,rfl,rfl,h3,rfl,rfl,h6⟩:=h;obtain⟨d1,d2,m',kk,e1,e2⟩:=all_st k.Z (K:=K) h3 (Nat.lt_of_le_of_lt (h_elems a) hk);refine⟨⟨d1,?_,?_⟩,m',e1,(sm_of e2 h6).p⟩
 ·rw[e1];exact d2
 ·rw[e1];simp only;omega
theorem first {K:Nat} {f:Int} {may:A->A->Bool} {P:Nat->Bool} (h:P2 k n m ra rb la lb c) (hA:Asks k.O k.S may P la) (hk:la.length<K) :
  DeepN k.O K (see m ra) (lk k.O m ra)/\∃ r m',Gv.first k.O may K (see m ra) (lk k.O m ra) ⟨0,k.O.a0⟩ f=(r,m')/\FirstIs P 0 la.length f r/\P2 k n m' ra rb la lb c:=by
 obtain⟨a,b,rfl,rfl,h3,rfl,rfl,h6⟩:=h;obtain⟨d,r,m',kk,e1,e2,e3⟩:=first_st k.Z (K:=K) (f:=f) h3 hA (Nat.lt_of_le_of_lt (h_elems a) hk);exact⟨d,r,m',e1,e2,(sm_of e3 h6).p⟩
theorem last {K:Nat} {f:Int} {may:A->A->Bool} {P:Nat->Bool} (h:P2 k n m ra rb la lb c) (hA:Asks k.O k.S may P la) (hk:la.length<K) :
  DeepN k.O K (see m ra) (lk k.O m ra)/\∃ r m',Gv.last k.O may K (see m ra) (lk k.O m ra) ⟨0,k.O.a0⟩ f=(r,m')/\LastIs P 0 la.length f r/\P2 k n m' ra rb la lb c:=by
 obtain⟨a,b,rfl,rfl,h3,rfl,rfl,h6⟩:=h;obtain⟨d,r,m',kk,e1,e2,e3⟩:=last_st k.Z (K:=K) (f:=f) h3 hA (Nat.lt_of_le_of_lt (h_elems a) hk);exact⟨d,r,m',e1,e2,(sm_of e3 h6).p⟩
theorem deepN {K:Nat} (h:P2 k n m ra rb la lb c) (hk:la.length<K):DeepN k.O K (see m ra) (lk k.O m ra):=by
 obtain⟨a,b,rfl,rfl,h3,rfl,rfl,h6⟩:=h;exact deepN_st k.Z h3 (Nat.lt_of_le_of_lt (h_elems a) hk)
theorem split {K:Nat} {e:E} {r:Ref} {l:List E} (h:P1 k n m r l c) (hk:2*l.length<K) :
  CutD k.O K K m r e/\∃ x y m',cutF k.O K K m r e=(x,y,m')/\P2 k n m' x y (loE k.O e l) (hiE k.O e l) c:=by
 obtain⟨a,b,rfl,h2,h3,rfl,h5,h6⟩:=h;obtain rfl:=nil_elems h5;obtain⟨d,x,y,m',e1,e2,e3,e4,e5⟩:=split_st' k.Z (K:=K) (e:=e) h3 (by rw[← Tr.elems_length];exact hk)
 exact⟨d,x.root,y.root,m',e1,x,y,rfl,rfl,e2,e3,e4,e5.trans h6⟩
end P2
end
theorem upd_see' {E A:Type} (O:Ops E A) {k:Nat} {m m':Po E A} {r:Ref} (h:Upd [] k (zn O) (see m r) m'):∃ k,Upd [] k (zn O) m m':=⟨_,(see_upd (zn O) m r).to h (S:=[]) (fun s hs=>by simp at hs) (Nat.le_refl _)⟩
theorem upd_two' {E A:Type} (O:Ops E A) {a b c:Po E A} (h:∃ k,Upd [] k (zn O) a b) (h':∃ k,Upd [] k (zn O) b c):∃ k,Upd [] k (zn O) a c:=by
 obtain⟨k,h⟩:=h;obtain⟨k',h'⟩:=h';exact⟨_,h.to h' (S:=[]) (fun s hs=>by simp at hs) (Nat.le_refl _)⟩
theorem first_upd' {E A:Type} (O:Ops E A) (may:A->A->Bool):∀ (k:Nat) (m:Po E A) (n:Node E A) (a:Part A) (f:Int),∃ kk,Upd [] kk (zn O) m (first O may k m n a f).2
 |0,m,_,_,_=>⟨0,Upd.refl _ _ _ _⟩
 |k+1,m,n,a,f=>by
  obtain⟨k1,h1⟩:=first_upd' O may k (see m n.l) (lk O m n.l) a f;have h1:=upd_see' O h1;rw[first]
  split
  ·exact⟨0,Upd.refl _ _ _ _⟩
  ·split
   ·exact⟨0,Upd.refl _ _ _ _⟩
   ·split
    ·exact h1
    ·split
     ·exact h1
     ·obtain⟨k2,h2⟩:=first_upd' O may k (see (first O may k (see m n.l) (lk O m n.l) a f).2 n.r) (lk O (first O may k (see m n.l) (lk O m n.l) a f).2 n.r) (plusP O (plusP O a (lk O m n.l).all) (one O n.e)) f
      exact upd_two' O h1 (upd_see' O h2)
theorem last_upd' {E A:Type} (O:Ops E A) (may:A->A->Bool):∀ (k:Nat) (m:Po E A) (n:Node E A) (a:Part A) (f:Int),∃ kk,Upd [] kk (zn O) m (last O may k m n a f).2
 |0,m,_,_,_=>⟨0,Upd.refl _ _ _ _⟩
 |k+1,m,n,a,f=>by
  obtain⟨k1,h1⟩:=last_upd' O may k (see (see m n.l) n.r) (lk O (see m n.l) n.r) (plusP O (plusP O a (lk O m n.l).all) (one O n.e)) f;have h1:=upd_two' O ⟨_,see_upd (zn O) m n.l⟩ (upd_see' O h1);rw[last];split
  ·exact⟨0,Upd.refl _ _ _ _⟩
  ·split
   ·exact⟨0,Upd.refl _ _ _ _⟩
   ·simp only;split
    ·exact h1
    ·split
     ·exact h1
     ·exact upd_two' O h1 (last_upd' O may k _ _ _ _)
def KK:Nat:=5000
structure TS {E A:Type} (k:Kd E A) where
 n:Nat
 m:Po E A
 r:Ref
 l:List E
 c:Int
 ok:P1 k n m r l c
namespace TS
section
variable {E A:Type} {k:Kd E A}
theorem len_le (s:TS k):s.l.length≤1000:=s.ok.len
theorem kk (s:TS k):2*s.l.length<KK:=by have:=s.len_le;unfold KK;omega
theorem k1 (s:TS k):s.l.length<KK:=by have:=s.kk;omega
def new (k:Kd E A) (c:Int):TS k:=⟨0,⟨[],[],[],[],0,min (max c 0) 16777216,0⟩,r0,[],min (max c 0) 16777216,P2.empty k _⟩
def Few (s:TS k):Prop:=s.n<100000
instance (s:TS k):Decidable s.Few:=inferInstanceAs (Decidable (_<_))
theorem pp (s:TS k) (h:s.Few):POk 100000 s.m:=s.ok.ok (Nat.le_of_lt h)
def seen (s:TS k):TS k:=⟨s.n,see s.m s.r,s.r,s.l,s.c,(s.ok.seen s.r).p⟩
def h (s:TS k):Int:=(lk k.O s.m s.r).h
theorem h_le (s:TS k):0≤s.h/\s.h≤hgt s.l.length:=by
 obtain⟨H,e,hh⟩:=s.ok.height;unfold h;rw[e];omega
structure PutOk (s:TS k) (e:E):Prop where
 few:s.n<100000
 good:k.good (putE k.O e s.l)
def putB (s:TS k) (e:E):Bool:=(hitE k.O e s.l).isSome||decide ((s.l.length:Int)≠s.c)
def putL (s:TS k) (e:E):List E:=if s.putB e=true then putE k.O e s.l else s.l
theorem put_ok {s:TS k} {e:E} (h:s.PutOk e):PutD k.O KK s.m s.r e/\(putF k.O KK s.m s.r e).1=s.putB e /\
  P1 k (s.n+1) (putF k.O KK s.m s.r e).2.2 (putF k.O KK s.m s.r e).2.1 (s.putL e) s.c/\Vis (32*hgt s.l.length+4) s.m (putF k.O KK s.m s.r e).2.2:=by
 obtain⟨d,r',m',e1,e2,e3⟩:=s.ok.put (K:=KK) (e:=e) h.few h.good s.k1;rw[e1];simp only[List.length_nil,Nat.add_zero] at e2 ⊢;exact⟨d,rfl,e2,e3⟩
instance (s:TS k) (e:E):Decidable (s.PutOk e):=decidable_of_iff (s.n<100000/\k.good (putE k.O e s.l)) ⟨fun⟨a,b⟩=>⟨a,b⟩,fun⟨a,b⟩=>⟨a,b⟩⟩
def put (s:TS k) (e:E):TS k:=if h:s.PutOk e then⟨s.n+1,(putF k.O KK s.m s.r e).2.2,(putF k.O KK s.m s.r e).2.1,s.putL e,s.c,(put_ok h).2.2.1⟩ else s
theorem put_eq {s:TS k} {e:E} (h:s.PutOk e):s.put e=⟨s.n+1,(putF k.O KK s.m s.r e).2.2,(putF k.O KK s.m s.r e).2.1,s.putL e,s.c,(put_ok h).2.2.1⟩:=by unfold put;rw[dif_pos h]
theorem put_l {s:TS k} {e:E} (h:s.PutOk e):(s.put e).l=s.putL e:=by rw[put_eq h]
theorem put_n {s:TS k} {e:E} (h:s.PutOk e):(s.put e).n=s.n+1:=by rw[put_eq h]
theorem put_c {s:TS k} {e:E} (h:s.PutOk e):(s.put e).c=s.c:=by rw[put_eq h]
theorem put_vis {s:TS k} {e:E} (h:s.PutOk e):Vis (32*hgt s.l.length+4) s.m (s.put e).m:=by rw[put_eq h];exact(put_ok h).2.2.2
theorem drop_ok (s:TS k) (e:E):PickD k.O KK KK s.m s.r e/\(dropF k.O KK s.m s.r e).1=(fndE k.O e s.l).1/\(dropF k.O KK s.m s.r e).2.1=(fndE k.O e s.l).2 /\
  P1 k (s.n+1) (dropF k.O KK s.m s.r e).2.2.2 (dropF k.O KK s.m s.r e).2.2.1 (dropE k.O e s.l) s.c/\Vis (120*hgt s.l.length+5) s.m (dropF k.O KK s.m s.r e).2.2.2:=by
 obtain⟨d,r',m',e1,e2,e3⟩:=s.ok.drop (K:=KK) (e:=e) s.kk;rw[e1];exact⟨d,rfl,rfl,e2,e3⟩
def drop (s:TS k) (e:E):TS k:=⟨s.n+1,(dropF k.O KK s.m s.r e).2.2.2,(dropF k.O KK s.m s.r e).2.2.1,dropE k.O e s.l,s.c,(s.drop_ok e).2.2.2.1⟩
def find (s:TS k) (e:E):TS k:=⟨s.n,(Gv.find k.O KK (see s.m s.r) (lk k.O s.m s.r) e).2,s.r,s.l,s.c,by obtain⟨d,m',e1,e2⟩:=s.ok.find (K:=KK) (e:=e) s.k1;rw[e1];exact e2.p⟩
def rank (s:TS k) (e:E):TS k:=⟨s.n,(Gv.rank k.O KK (see s.m s.r) (lk k.O s.m s.r) e 0).2,s.r,s.l,s.c,by obtain⟨d,m',e1,e2⟩:=s.ok.rank (K:=KK) (e:=e) s.k1;rw[e1];exact e2.p⟩
def at_ (s:TS k) (i:Int):TS k:=⟨s.n,(atF k.O KK s.m s.r i).2,s.r,s.l,s.c,by obtain⟨d,m',e1,e2⟩:=s.ok.at_ (K:=KK) (i:=i) s.k1;rw[e1];exact e2.p⟩
def bet (s:TS k) (f u:Int):TS k:=⟨s.n,(between k.O KK (see s.m s.r) (lk k.O s.m s.r) f u).2,s.r,s.l,s.c,by obtain⟨d,m',e1,e2⟩:=s.ok.bet (K:=KK) (f:=f) (u:=u) s.k1;rw[e1];exact e2.p⟩
def all (s:TS k):TS k:=⟨s.n,(gather k.O KK (see s.m s.r) s.r).2,s.r,s.l,s.c,by obtain⟨d,m',e1,e2⟩:=s.ok.all (K:=KK) s.k1;rw[e1];exact e2⟩
theorem find_vis (s:TS k) (e:E):Vis (hgt s.l.length+1) s.m (s.find e).m:=by
 obtain⟨d,m',e1,e2⟩:=s.ok.find (K:=KK) (e:=e) s.k1;show Vis _ s.m (Gv.find k.O KK (see s.m s.r) (lk k.O s.m s.r) e).2
 rw[e1];exact e2.vis
theorem rank_vis (s:TS k) (e:E):Vis (2*hgt s.l.length+1) s.m (s.rank e).m:=by
 obtain⟨d,m',e1,e2⟩:=s.ok.rank (K:=KK) (e:=e) s.k1;show Vis _ s.m (Gv.rank k.O KK (see s.m s.r) (lk k.O s.m s.r) e 0).2
 rw[e1];exact e2.vis
theorem bet_vis (s:TS k) (f u:Int):Vis (4*hgt s.l.length+1) s.m (s.bet f u).m:=by
 obtain⟨d,m',e1,e2⟩:=s.ok.bet (K:=KK) (f:=f) (u:=u) s.k1;show Vis _ s.m (between k.O KK (see s.m s.r) (lk k.O s.m s.r) f u).2
 rw[e1];exact e2.vis
theorem seen_vis (s:TS k):Vis 1 s.m s.seen.m:=(s.ok.seen s.r).vis
theorem drop_vis (s:TS k) (e:E):Vis (120*hgt s.l.length+5) s.m (s.drop e).m:=(s.drop_ok e).2.2.2.2
def firstI (may:A->A->Bool) (s:TS k) (f:Int):Int:=(Gv.first k.O may KK (see s.m s.r) (lk k.O s.m s.r) ⟨0,k.O.a0⟩ f).1
def lastI (may:A->A->Bool) (s:TS k) (f:Int):Int:=(Gv.last k.O may KK (see s.m s.r) (lk k.O s.m s.r) ⟨0,k.O.a0⟩ f).1
def first (may:A->A->Bool) (s:TS k) (f:Int):TS k:=⟨s.n,(Gv.first k.O may KK (see s.m s.r) (lk k.O s.m s.r) ⟨0,k.O.a0⟩ f).2,s.r,s.l,s.c,P2.upd (s.ok.seen s.r).p (first_upd' k.O may KK _ _ _ _)⟩
def last (may:A->A->Bool) (s:TS k) (f:Int):TS k:=⟨s.n,(Gv.last k.O may KK (see s.m s.r) (lk k.O s.m s.r) ⟨0,k.O.a0⟩ f).2,s.r,s.l,s.c,P2.upd (s.ok.seen s.r).p (last_upd' k.O may KK _ _ _ _)⟩
theorem first_is {may:A->A->Bool} {P:Nat->Bool} {s:TS k} {f:Int} (h:Asks k.O k.S may P s.l):FirstIs P 0 s.l.length f (s.firstI may f):=by
 obtain⟨d,r,m',e1,e2,e3⟩:=s.ok.first (K:=KK) (f:=f) h s.k1
 unfold firstI;rw[e1];exact e2
theorem last_is {may:A->A->Bool} {P:Nat->Bool} {s:TS k} {f:Int} (h:Asks k.O k.S may P s.l):LastIs P 0 s.l.length f (s.lastI may f):=by
 obtain⟨d,r,m',e1,e2,e3⟩:=s.ok.last (K:=KK) (f:=f) h s.k1;unfold lastI;rw[e1];exact e2
theorem deepN (s:TS k):DeepN k.O KK (see s.m s.r) (lk k.O s.m s.r):=s.ok.deepN s.k1
end
end TS
end Gv
namespace G8
open Rx
set_option maxRecDepth 100000
def k8:Gv.Kd Wv.Mk Wv.Sw:=⟨Wv.O8,Wv.S8,Wv.good8,(fun l=>inferInstanceAs (Decidable (l.length≤60))),Wv.laws8,(fun x h=>Nat.le_trans h (by decide)),Nat.zero_le _,(fun x y h=>by
 unfold Wv.good8 at *
 rw[List.length_append] at *
 rw[List.length_tail];omega)⟩
abbrev Ts:=Gv.TS k8
inductive Rt
 |tree (s:Ts)
def lay2:Rt->Hp Rs
 |.tree s=>[some (.inl (92,[.pointer (some ⟨1,0,none⟩),.int .i64 s.r.i,.int .i64 s.r.g])),some (.inr (.inr (.inr (.pool s.m))))]
def L2:Lay Rt Rs where
 lay:=lay2
 ne x:=by cases x<;>exact Nat.succ_pos _
 own x b X h:=by
  cases x with
  |tree s =>
   match b,h with
   |0,h=>simp only[lay2,List.getElem?_cons_zero,Option.some.injEq] at h;subst h;rfl
   |1,h=>simp only[lay2,List.getElem?_cons_succ,List.getElem?_cons_zero,Option.some.injEq] at h;subst h;rfl
   |b+2,h=>simp[lay2] at h
 ins x:=by cases x<;>rfl
def D2:Res Rt:=resOf D L2
abbrev oT (s:Ts):Option (SB Rt):=some (.inr (.inr (.inr (.tree s))))
def IsI (n:Nat) (c:Col):Prop:=∃ l:List Int,c=⟨l,[],[]⟩/\l.length=n
def IsB (n:Nat) (c:Col):Prop:=∃ l:List Bool,c=⟨[],l,[]⟩/\l.length=n
def hasC (n:Nat) (gs:List Int) (lv:List Bool) (i g:Int):Bool:=decide (0≤i)&&decide (i<n)&&lv.getD i.toNat false&&decide (gs.getD i.toNat 0=g)
structure Cols (n:Nat) (c0 c1 c2 c3 c4 c5 c6 c7 c8 c9 c10 c11 c12 c13 c14 c15 c16 c17 c18 c19 c20 c21 c22 c23 c24 c25 c26 c27 c28 c29 c30 c31:Col):Prop where
 hc0:IsI n c0
 hc1:IsB n c1
 hc2:IsI n c2
 hc3:IsI n c3
 hc4:IsB n c4
 hc5:IsB n c5
 hc6:IsI n c6
 hc7:IsI n c7
 hc8:IsI n c8
 hc9:IsI n c9
 hc10:IsI n c10
 hc11:IsI n c11
 hc12:IsI n c12
 hc13:IsI n c13
 hc14:IsI n c14
 hc15:IsI n c15
 hc16:IsI n c16
 hc17:IsI n c17
 hc18:IsI n c18
 hc19:IsI n c19
 hc20:IsI n c20
 hc21:IsI n c21
 hc22:IsI n c22
 hc23:IsB n c23
 hc24:IsI n c24
 hc25:IsI n c25
 hc26:IsB n c26
 hc27:IsI n c27
 hc28:IsI n c28
 hc29:IsI n c29
 hc30:IsI n c30
 hc31:IsB n c31
def ColsL (n:Nat):List Col->Prop
 |[c0,c1,c2,c3,c4,c5,c6,c7,c8,c9,c10,c11,c12,c13,c14,c15,c16,c17,c18,c19,c20,c21,c22,c23,c24,c25,c26,c27,c28,c29,c30,c31]=>Cols n c0 c1 c2 c3 c4 c5 c6 c7 c8 c9 c10 c11 c12 c13 c14 c15 c16 c17 c18 c19 c20 c21 c22 c23 c24 c25 c26 c27 c28 c29 c30 c31
 |_=>False
def visitW:List Value->Hp Empty->Option Bool:=fun args hh=>match args,hh with
 |[.pointer (some ⟨0,0,none⟩),.agg ⟨[.int .i64 i,.int .i64 g]⟩],[some (.inl (156,[.slice (some ⟨1,0,some 32000⟩) n cp,.slice (some ⟨2,0,some 1000⟩) fn fc,.int .i64 hd,.int .i64 ca,.int .i64 vi])),some (.inr (.inl (159,⟨tm,n2,[c0,c1,c2,c3,c4,c5,c6,c7,c8,c9,c10,c11,c12,c13,c14,c15,c16,c17,c18,c19,c20,c21,c22,c23,c24,c25,c26,c27,c28,c29,c30,c31]⟩))),some (.inr (.inl (3,⟨[.int .i64 0],f2,[⟨fr,[],[]⟩]⟩)))]=>some (hasC n c30.i c31.b i g)
 |_,_=>none
def visitY:Prim Empty:=fun args hh=>match args,hh with
 |[.pointer (some ⟨0,0,none⟩),.agg ⟨[.int .i64 i,.int .i64 g]⟩],[some (.inl (156,[.slice (some ⟨1,0,some 32000⟩) n cp,.slice (some ⟨2,0,some 1000⟩) fn fc,.int .i64 hd,.int .i64 ca,.int .i64 vi])),some (.inr (.inl (159,⟨tm,n2,[c0,c1,c2,c3,c4,c5,c6,c7,c8,c9,c10,c11,c12,c13,c14,c15,c16,c17,c18,c19,c20,c21,c22,c23,c24,c25,c26,c27,c28,c29,c30,c31]⟩))),some (.inr (.inl (3,⟨[.int .i64 0],f2,[⟨fr,[],[]⟩]⟩)))]=>some ⟨tm=cellTm/\n2=n/\n<1000000/\ColsL n [c0,c1,c2,c3,c4,c5,c6,c7,c8,c9,c10,c11,c12,c13,c14,c15,c16,c17,c18,c19,c20,c21,c22,c23,c24,c25,c26,c27,c28,c29,c30,c31],.pointer (some ⟨1,i.toNat,some 32000⟩),none,[some (.inl (156,[.slice (some ⟨1,0,some 32000⟩) n cp,.slice (some ⟨2,0,some 1000⟩) fn fc,.int .i64 hd,.int .i64 ca,.int .i64 (IntKind.i64.wrap (vi+1))])),some (.inr (.inl (159,⟨tm,n2,[c0,c1,c2,c3,c4,c5,c6,c7,c8,c9,c10,c11,c12,c13,c14,c15,c16,c17,c18,c19,c20,c21,c22,c23,c24,c25,c26,c27,c28,c29,c30,c31]⟩))),some (.inr (.inl (3,⟨[.int .i64 0],f2,[⟨fr,[],[]⟩]⟩)))],[],[(0,0)]⟩
 |_,_=>none
def visitN:Prim Empty:=fun args hh=>match args,hh with
 |[.pointer (some ⟨0,0,none⟩),.agg ⟨[.int .i64 i,.int .i64 g]⟩],[some (.inl (156,[.slice (some ⟨1,0,some 32000⟩) n cp,.slice (some ⟨2,0,some 1000⟩) fn fc,.int .i64 hd,.int .i64 ca,.int .i64 vi])),some (.inr (.inl (159,⟨tm,n2,[c0,c1,c2,c3,c4,c5,c6,c7,c8,c9,c10,c11,c12,c13,c14,c15,c16,c17,c18,c19,c20,c21,c22,c23,c24,c25,c26,c27,c28,c29,c30,c31]⟩))),some (.inr (.inl (3,⟨[.int .i64 0],f2,[⟨fr,[],[]⟩]⟩)))]=>some ⟨tm=cellTm/\n2=n/\n<1000000/\ColsL n [c0,c1,c2,c3,c4,c5,c6,c7,c8,c9,c10,c11,c12,c13,c14,c15,c16,c17,c18,c19,c20,c21,c22,c23,c24,c25,c26,c27,c28,c29,c30,c31],.pointer none,none,hh,[],[]⟩
 |_,_=>none
def visitC:Con Empty:=⟨visitW,visitY,visitN⟩
def TWr:Tab Empty:=[(1000000000,wrapCon)]
theorem TWr_ok:TabOk NoR Tryz.prog TWr:=⟨wrapCon_ok,trivial⟩
theorem visitY_ok:PrimOk NoR Tryz.prog 113 (way visitC true) (visitC.go true):=by
 refine prim_at (fn:=Tryz.f113) (root:=codeOf Tryz.f113) (by kernel_rfl) (by kernel_rfl) (by kernel_rfl) fun args hh x hx=>?_
 unfold visitC Con.go visitY at hx;simp only at hx;split at hx
 ·rename_i i g n cp fn fc hd ca vi tm n2 c0 c1 c2 c3 c4 c5 c6 c7 c8 c9 c10 c11 c12 c13 c14 c15 c16 c17 c18 c19 c20 c21 c22 c23 c24 c25 c26 c27 c28 c29 c30 c31 f2 fr;injection hx with hx
  subst hx;refine⟨Nat.le_refl _,(fun b hb=>by cases hb),(fun hw=>by first|rfl|cases hw),fun hon hv=>?_⟩
  obtain⟨rfl,rfl,hv1,⟨⟨l0,rfl,hl0⟩,⟨l1,rfl,hl1⟩,⟨l2,rfl,hl2⟩,⟨l3,rfl,hl3⟩,⟨l4,rfl,hl4⟩,⟨l5,rfl,hl5⟩,⟨l6,rfl,hl6⟩,⟨l7,rfl,hl7⟩,⟨l8,rfl,hl8⟩,⟨l9,rfl,hl9⟩,⟨l10,rfl,hl10⟩,⟨l11,rfl,hl11⟩,⟨l12,rfl,hl12⟩,⟨l13,rfl,hl13⟩,⟨l14,rfl,hl14⟩,⟨l15,rfl,hl15⟩,⟨l16,rfl,hl16⟩,⟨l17,rfl,hl17⟩,⟨l18,rfl,hl18⟩,⟨l19,rfl,hl19⟩,⟨l20,rfl,hl20⟩,⟨l21,rfl,hl21⟩,⟨l22,rfl,hl22⟩,⟨l23,rfl,hl23⟩,⟨l24,rfl,hl24⟩,⟨l25,rfl,hl25⟩,⟨l26,rfl,hl26⟩,⟨l27,rfl,hl27⟩,⟨l28,rfl,hl28⟩,⟨l29,rfl,hl29⟩,⟨l30,rfl,hl30⟩,⟨l31,rfl,hl31⟩⟩⟩:=hv;have hw:hasC n2 l30 l31 i g=true:=by
   rcases hon with⟨h,_⟩|h
   ·exact(Option.some_ne_none _ h).elim
   ·exact Option.some.inj h
  clear hon;generalize hG:Rx.Ends (R:=Empty) _ _=G;refine rx_ok (T:=TWr) TWr_ok mixed 200 ?_;refine as_text (q:=let Z1:=Value.int IntKind.i64;(decide (i<(0:Int))=true->Vc (Value.bool (decide (i<(0:Int)))=Value.bool true)/\Post (G (Value.pointer none) [some (.inl (156,[Value.slice (some (Addr.mk 1 0 (some 32000))) n2 cp,Value.slice (some (Addr.mk 2 0 (some 1000))) fn fc,Z1 hd,Z1 ca,Z1 vi])),some (.inr (.inl (159,Row.mk cellTm n2 (cV l0 l1 l2 l3 l4 l5 l6 l7 l8 l9 l10 l11 l12 l13 l14 l15 l16 l17 l18 l19 l20 l21 l22 l23 l24 l25 l26 l27 l28 l29 l30 l31)))),some (.inr (.inl (3,Row.mk [Z1 0] f2 [Col.mk fr [] []]))),some (.inl (90,[Z1 i,Z1 g]))]))/\(decide (i<(0:Int))=false->Vc (Value.bool (decide (i<(0:Int)))=Value.bool false)/\(decide (i≥(↑n2:Int))=true->Post (G (Value.pointer none) [some (.inl (156,[Value.slice (some (Addr.mk 1 0 (some 32000))) n2 cp,Value.slice (some (Addr.mk 2 0 (some 1000))) fn fc,Z1 hd,Z1 ca,Z1 vi])),some (.inr (.inl (159,Row.mk cellTm n2 (cV l0 l1 l2 l3 l4 l5 l6 l7 l8 l9 l10 l11 l12 l13 l14 l15 l16 l17 l18 l19 l20 l21 l22 l23 l24 l25 l26 l27 l28 l29 l30 l31)))),some (.inr (.inl (3,Row.mk [Z1 0] f2 [Col.mk fr [] []]))),some (.inl (90,[Z1 i,Z1 g]))]))/\(decide (i≥(↑n2:Int))=false->Vc ((0:Int)≤i/\i<(↑n2:Int)/\0+n2≤n2)/\Vc (0+Int.toNat i<n2)/\((!List.getD l31 (0+Int.toNat i) false)=true->Vc (0+Int.toNat i<n2)/\Vc ((Value.bool !List.getD l31 (0+Int.toNat i) false)=Value.bool true)/\Post (G (Value.pointer none) [some (.inl (156,[Value.slice (some (Addr.mk 1 0 (some 32000))) n2 cp,Value.slice (some (Addr.mk 2 0 (some 1000))) fn fc,Z1 hd,Z1 ca,Z1 vi])),some (.inr (.inl (159,Row.mk cellTm n2 (cV l0 l1 l2 l3 l4 l5 l6 l7 l8 l9 l10 l11 l12 l13 l14 l15 l16 l17 l18 l19 l20 l21 l22 l23 l24 l25 l26 l27 l28 l29 l30 l31)))),some (.inr (.inl (3,Row.mk [Z1 0] f2 [Col.mk fr [] []]))),some (.inl (90,[Z1 i,Z1 g]))]))/\((!List.getD l31 (0+Int.toNat i) false)=false->Vc (0+Int.toNat i<n2)/\Vc ((Value.bool !List.getD l31 (0+Int.toNat i) false)=Value.bool false)/\Vc (0+Int.toNat i<n2)/\((List.getD l30 (0+Int.toNat i) (0:Int) != g)=true->Post (G (Value.pointer none) [some (.inl (156,[Value.slice (some (Addr.mk 1 0 (some 32000))) n2 cp,Value.slice (some (Addr.mk 2 0 (some 1000))) fn fc,Z1 hd,Z1 ca,Z1 vi])),some (.inr (.inl (159,Row.mk cellTm n2 (cV l0 l1 l2 l3 l4 l5 l6 l7 l8 l9 l10 l11 l12 l13 l14 l15 l16 l17 l18 l19 l20 l21 l22 l23 l24 l25 l26 l27 l28 l29 l30 l31)))),some (.inr (.inl (3,Row.mk [Z1 0] f2 [Col.mk fr [] []]))),some (.inl (90,[Z1 i,Z1 g]))]))/\((List.getD l30 (0+Int.toNat i) (0:Int) != g)=false->Vc True/\Post (G (Value.pointer (some (Addr.mk 1 (0+Int.toNat i) (some 32000)))) [some (.inl (156,[Value.slice (some (Addr.mk 1 0 (some 32000))) n2 cp,Value.slice (some (Addr.mk 2 0 (some 1000))) fn fc,Z1 hd,Z1 ca,Z1 (IntKind.wrap IntKind.i64 (vi+(1:Int)))])),some (.inr (.inl (159,Row.mk cellTm n2 (cV l0 l1 l2 l3 l4 l5 l6 l7 l8 l9 l10 l11 l12 l13 l14 l15 l16 l17 l18 l19 l20 l21 l22 l23 l24 l25 l26 l27 l28 l29 l30 l31)))),some (.inr (.inl (3,Row.mk [Z1 0] f2 [Col.mk fr [] []]))),some (.inl (90,[Z1 i,Z1 g]))])))))) ?_ (by kernel_rfl)
  intro Z1;subst Z1;have e0:0+i.toNat=i.toNat:=Nat.zero_add _;rw[e0];clear hl0 hl1 hl2 hl3 hl4 hl5 hl6 hl7 hl8 hl9 hl10 hl11 hl12 hl13 hl14 hl15 hl16 hl17 hl18 hl19 hl20 hl21 hl22 hl23 hl24 hl25 hl26 hl27 hl28 hl29 hl30 hl31;subst hG;have hw3:hasC n2 l30 l31 i g=(decide (0≤i)&&decide (i<n2)&&(l31).getD i.toNat false&&decide ((l30).getD i.toNat 0=g)):=rfl;refine⟨fun h=>⟨⟨congrArg Value.bool h⟩,⟨?_⟩⟩,fun h=>⟨⟨congrArg Value.bool h⟩,fun h2=>⟨?_⟩,fun h2=>?_⟩⟩
  rotate_left 2
  ·have i0:=of_decide_eq_false h;have i1:=of_decide_eq_false h2;rw[decide_eq_true (by omega),decide_eq_true (by omega),Bool.true_and,Bool.true_and] at hw3
   refine⟨⟨by omega,by omega,by omega⟩,⟨by omega⟩,fun h3=>⟨⟨by omega⟩,⟨congrArg Value.bool h3⟩,⟨?_⟩⟩,fun h3=>⟨⟨by omega⟩,⟨congrArg Value.bool h3⟩,⟨by omega⟩,fun h4=>⟨?_⟩,fun h4=>⟨⟨trivial⟩,⟨?_⟩⟩⟩⟩
   ·rw[Bool.not_eq_true'] at h3;rw[hw,h3] at hw3;cases hw3
   ·rw[hw,decide_eq_false (ne_of_beq_false (by simpa using h4)),Bool.and_false] at hw3;cases hw3
   ·exact⟨[0,1,2],rfl,rfl,⟨.inl rfl,⟨_,rfl,.inl rfl⟩,⟨_,rfl,.inl rfl⟩,trivial⟩,rfl,rfl,rfl,rfl⟩
  ·have:=of_decide_eq_true h;rw[hw,decide_eq_false (by omega)] at hw3;cases hw3
  ·have:=of_decide_eq_true h2;rw[hw,decide_eq_false (p:=i<n2) (by omega),Bool.and_false] at hw3;cases hw3
 ·cases hx
theorem visitN_ok:PrimOk NoR Tryz.prog 113 (way visitC false) (visitC.go false):=by
 refine prim_at (fn:=Tryz.f113) (root:=codeOf Tryz.f113) (by kernel_rfl) (by kernel_rfl) (by kernel_rfl) fun args hh x hx=>?_
 unfold visitC Con.go visitN at hx;simp only at hx;split at hx
 ·rename_i i g n cp fn fc hd ca vi tm n2 c0 c1 c2 c3 c4 c5 c6 c7 c8 c9 c10 c11 c12 c13 c14 c15 c16 c17 c18 c19 c20 c21 c22 c23 c24 c25 c26 c27 c28 c29 c30 c31 f2 fr;injection hx with hx
  subst hx;refine⟨Nat.le_refl _,(fun b hb=>by cases hb),(fun hw=>by first|rfl|cases hw),fun hon hv=>?_⟩
  obtain⟨rfl,rfl,hv1,⟨⟨l0,rfl,hl0⟩,⟨l1,rfl,hl1⟩,⟨l2,rfl,hl2⟩,⟨l3,rfl,hl3⟩,⟨l4,rfl,hl4⟩,⟨l5,rfl,hl5⟩,⟨l6,rfl,hl6⟩,⟨l7,rfl,hl7⟩,⟨l8,rfl,hl8⟩,⟨l9,rfl,hl9⟩,⟨l10,rfl,hl10⟩,⟨l11,rfl,hl11⟩,⟨l12,rfl,hl12⟩,⟨l13,rfl,hl13⟩,⟨l14,rfl,hl14⟩,⟨l15,rfl,hl15⟩,⟨l16,rfl,hl16⟩,⟨l17,rfl,hl17⟩,⟨l18,rfl,hl18⟩,⟨l19,rfl,hl19⟩,⟨l20,rfl,hl20⟩,⟨l21,rfl,hl21⟩,⟨l22,rfl,hl22⟩,⟨l23,rfl,hl23⟩,⟨l24,rfl,hl24⟩,⟨l25,rfl,hl25⟩,⟨l26,rfl,hl26⟩,⟨l27,rfl,hl27⟩,⟨l28,rfl,hl28⟩,⟨l29,rfl,hl29⟩,⟨l30,rfl,hl30⟩,⟨l31,rfl,hl31⟩⟩⟩:=hv;have hw:hasC n2 l30 l31 i g=false:=by
   rcases hon with⟨h,_⟩|h
   ·exact(Option.some_ne_none _ h).elim
   ·exact Option.some.inj h
  clear hon;generalize hG:Rx.Ends (R:=Empty) _ _=G;refine rx_ok (T:=TWr) TWr_ok mixed 200 ?_;refine as_text (q:=let Z1:=Value.int IntKind.i64;(decide (i<(0:Int))=true->Vc (Value.bool (decide (i<(0:Int)))=Value.bool true)/\Post (G (Value.pointer none) [some (.inl (156,[Value.slice (some (Addr.mk 1 0 (some 32000))) n2 cp,Value.slice (some (Addr.mk 2 0 (some 1000))) fn fc,Z1 hd,Z1 ca,Z1 vi])),some (.inr (.inl (159,Row.mk cellTm n2 (cV l0 l1 l2 l3 l4 l5 l6 l7 l8 l9 l10 l11 l12 l13 l14 l15 l16 l17 l18 l19 l20 l21 l22 l23 l24 l25 l26 l27 l28 l29 l30 l31)))),some (.inr (.inl (3,Row.mk [Z1 0] f2 [Col.mk fr [] []]))),some (.inl (90,[Z1 i,Z1 g]))]))/\(decide (i<(0:Int))=false->Vc (Value.bool (decide (i<(0:Int)))=Value.bool false)/\(decide (i≥(↑n2:Int))=true->Post (G (Value.pointer none) [some (.inl (156,[Value.slice (some (Addr.mk 1 0 (some 32000))) n2 cp,Value.slice (some (Addr.mk 2 0 (some 1000))) fn fc,Z1 hd,Z1 ca,Z1 vi])),some (.inr (.inl (159,Row.mk cellTm n2 (cV l0 l1 l2 l3 l4 l5 l6 l7 l8 l9 l10 l11 l12 l13 l14 l15 l16 l17 l18 l19 l20 l21 l22 l23 l24 l25 l26 l27 l28 l29 l30 l31)))),some (.inr (.inl (3,Row.mk [Z1 0] f2 [Col.mk fr [] []]))),some (.inl (90,[Z1 i,Z1 g]))]))/\(decide (i≥(↑n2:Int))=false->Vc ((0:Int)≤i/\i<(↑n2:Int)/\0+n2≤n2)/\Vc (0+Int.toNat i<n2)/\((!List.getD l31 (0+Int.toNat i) false)=true->Vc (0+Int.toNat i<n2)/\Vc ((Value.bool !List.getD l31 (0+Int.toNat i) false)=Value.bool true)/\Post (G (Value.pointer none) [some (.inl (156,[Value.slice (some (Addr.mk 1 0 (some 32000))) n2 cp,Value.slice (some (Addr.mk 2 0 (some 1000))) fn fc,Z1 hd,Z1 ca,Z1 vi])),some (.inr (.inl (159,Row.mk cellTm n2 (cV l0 l1 l2 l3 l4 l5 l6 l7 l8 l9 l10 l11 l12 l13 l14 l15 l16 l17 l18 l19 l20 l21 l22 l23 l24 l25 l26 l27 l28 l29 l30 l31)))),some (.inr (.inl (3,Row.mk [Z1 0] f2 [Col.mk fr [] []]))),some (.inl (90,[Z1 i,Z1 g]))]))/\((!List.getD l31 (0+Int.toNat i) false)=false->Vc (0+Int.toNat i<n2)/\Vc ((Value.bool !List.getD l31 (0+Int.toNat i) false)=Value.bool false)/\Vc (0+Int.toNat i<n2)/\((List.getD l30 (0+Int.toNat i) (0:Int) != g)=true->Post (G (Value.pointer none) [some (.inl (156,[Value.slice (some (Addr.mk 1 0 (some 32000))) n2 cp,Value.slice (some (Addr.mk 2 0 (some 1000))) fn fc,Z1 hd,Z1 ca,Z1 vi])),some (.inr (.inl (159,Row.mk cellTm n2 (cV l0 l1 l2 l3 l4 l5 l6 l7 l8 l9 l10 l11 l12 l13 l14 l15 l16 l17 l18 l19 l20 l21 l22 l23 l24 l25 l26 l27 l28 l29 l30 l31)))),some (.inr (.inl (3,Row.mk [Z1 0] f2 [Col.mk fr [] []]))),some (.inl (90,[Z1 i,Z1 g]))]))/\((List.getD l30 (0+Int.toNat i) (0:Int) != g)=false->Vc True/\Post (G (Value.pointer (some (Addr.mk 1 (0+Int.toNat i) (some 32000)))) [some (.inl (156,[Value.slice (some (Addr.mk 1 0 (some 32000))) n2 cp,Value.slice (some (Addr.mk 2 0 (some 1000))) fn fc,Z1 hd,Z1 ca,Z1 (IntKind.wrap IntKind.i64 (vi+(1:Int)))])),some (.inr (.inl (159,Row.mk cellTm n2 (cV l0 l1 l2 l3 l4 l5 l6 l7 l8 l9 l10 l11 l12 l13 l14 l15 l16 l17 l18 l19 l20 l21 l22 l23 l24 l25 l26 l27 l28 l29 l30 l31)))),some (.inr (.inl (3,Row.mk [Z1 0] f2 [Col.mk fr [] []]))),some (.inl (90,[Z1 i,Z1 g]))])))))) ?_ (by kernel_rfl)
  intro Z1;subst Z1;have e0:0+i.toNat=i.toNat:=Nat.zero_add _;rw[e0];clear hl0 hl1 hl2 hl3 hl4 hl5 hl6 hl7 hl8 hl9 hl10 hl11 hl12 hl13 hl14 hl15 hl16 hl17 hl18 hl19 hl20 hl21 hl22 hl23 hl24 hl25 hl26 hl27 hl28 hl29 hl30 hl31;subst hG;have hw3:hasC n2 l30 l31 i g=(decide (0≤i)&&decide (i<n2)&&(l31).getD i.toNat false&&decide ((l30).getD i.toNat 0=g)):=rfl;refine⟨fun h=>⟨⟨congrArg Value.bool h⟩,⟨?_⟩⟩,fun h=>⟨⟨congrArg Value.bool h⟩,fun h2=>⟨?_⟩,fun h2=>?_⟩⟩
  rotate_left 2
  ·have i0:=of_decide_eq_false h;have i1:=of_decide_eq_false h2;rw[decide_eq_true (by omega),decide_eq_true (by omega),Bool.true_and,Bool.true_and] at hw3
   refine⟨⟨by omega,by omega,by omega⟩,⟨by omega⟩,fun h3=>⟨⟨by omega⟩,⟨congrArg Value.bool h3⟩,⟨?_⟩⟩,fun h3=>⟨⟨by omega⟩,⟨congrArg Value.bool h3⟩,⟨by omega⟩,fun h4=>⟨?_⟩,fun h4=>⟨⟨trivial⟩,⟨?_⟩⟩⟩⟩
   ·exact⟨[0,1,2],rfl,rfl,⟨.inl rfl,⟨_,rfl,.inl rfl⟩,⟨_,rfl,.inl rfl⟩,trivial⟩,rfl,rfl,rfl,rfl⟩
   ·exact⟨[0,1,2],rfl,rfl,⟨.inl rfl,⟨_,rfl,.inl rfl⟩,⟨_,rfl,.inl rfl⟩,trivial⟩,rfl,rfl,rfl,rfl⟩
   ·rw[hw,decide_eq_true (by simpa using h4),Bool.and_true] at hw3;rw[Bool.not_eq_false'] at h3;rw[h3] at hw3;cases hw3
  ·exact⟨[0,1,2],rfl,rfl,⟨.inl rfl,⟨_,rfl,.inl rfl⟩,⟨_,rfl,.inl rfl⟩,trivial⟩,rfl,rfl,rfl,rfl⟩
  ·exact⟨[0,1,2],rfl,rfl,⟨.inl rfl,⟨_,rfl,.inl rfl⟩,⟨_,rfl,.inl rfl⟩,trivial⟩,rfl,rfl,rfl,rfl⟩
 ·cases hx
theorem visit_ok:ConOk NoR Tryz.prog 113 visitC:=fun b=>by cases b;exact visitN_ok;exact visitY_ok
theorem fits_m1:Vc (fits (-1)):=⟨⟨by omega,by omega⟩⟩
theorem nx_cap {n:Nat} (h:n<1000000):Vc (0+n≤n/\1≤1/\(n+1)*256≤140737488355328/\n+1≤140737488355328):=⟨by omega,by omega,by omega,by omega⟩
theorem nx_fits {n:Nat} (h:n<1000000):Vc (fits (((n+1:Nat):Int)-1)):=⟨⟨by omega,by omega⟩⟩
theorem nx_e1 (n:Nat):((n+1:Nat):Int)-1=n:=by omega
def nextW:List Value->Hp Empty->Option Bool:=fun args hh=>match args,hh with
 |[.pointer (some ⟨0,0,none⟩)],[some (.inl (156,[.slice (some ⟨1,0,some 32000⟩) n cp,.slice (some ⟨2,0,some 1000⟩) fn fc,.int .i64 hd,.int .i64 ca,.int .i64 vi])),some (.inr (.inl (159,⟨tm,n2,[c0,c1,c2,c3,c4,c5,c6,c7,c8,c9,c10,c11,c12,c13,c14,c15,c16,c17,c18,c19,c20,c21,c22,c23,c24,c25,c26,c27,c28,c29,c30,c31]⟩))),some (.inr (.inl (3,⟨[.int .i64 0],f2,[⟨fr,[],[]⟩]⟩)))]=>some (decide (fn=0))
 |_,_=>none
def nextY:Prim Empty:=fun args hh=>match args,hh with
 |[.pointer (some ⟨0,0,none⟩)],[some (.inl (156,[.slice (some ⟨1,0,some 32000⟩) n cp,.slice (some ⟨2,0,some 1000⟩) fn fc,.int .i64 hd,.int .i64 ca,.int .i64 vi])),some (.inr (.inl (159,⟨tm,n2,[c0,c1,c2,c3,c4,c5,c6,c7,c8,c9,c10,c11,c12,c13,c14,c15,c16,c17,c18,c19,c20,c21,c22,c23,c24,c25,c26,c27,c28,c29,c30,c31]⟩))),some (.inr (.inl (3,⟨[.int .i64 0],f2,[⟨fr,[],[]⟩]⟩)))]=>some ⟨fn=0/\f2=fn/\fc=0/\cp=0/\tm=cellTm/\n2=n/\n<1000000/\ColsL n [c0,c1,c2,c3,c4,c5,c6,c7,c8,c9,c10,c11,c12,c13,c14,c15,c16,c17,c18,c19,c20,c21,c22,c23,c24,c25,c26,c27,c28,c29,c30,c31],.int .i64 n,none,[some (.inl (156,[.slice (some ⟨3,0,some 32000⟩) (n+1) 0,.slice (some ⟨2,0,some 1000⟩) fn fc,.int .i64 hd,.int .i64 ca,.int .i64 vi])),none,some (.inr (.inl (3,⟨[.int .i64 0],f2,[⟨fr,[],[]⟩]⟩))),some (.inr (.inl (159,⟨tm,(n+1),[⟨c0.i++[0],[],[]⟩,⟨[],c1.b++[false],[]⟩,⟨c2.i++[0],[],[]⟩,⟨c3.i++[0],[],[]⟩,⟨[],c4.b++[false],[]⟩,⟨[],c5.b++[false],[]⟩,⟨c6.i++[0],[],[]⟩,⟨c7.i++[0],[],[]⟩,⟨c8.i++[0],[],[]⟩,⟨c9.i++[0],[],[]⟩,⟨c10.i++[0],[],[]⟩,⟨c11.i++[0],[],[]⟩,⟨c12.i++[0],[],[]⟩,⟨c13.i++[0],[],[]⟩,⟨c14.i++[0],[],[]⟩,⟨c15.i++[0],[],[]⟩,⟨c16.i++[0],[],[]⟩,⟨c17.i++[0],[],[]⟩,⟨c18.i++[0],[],[]⟩,⟨c19.i++[0],[],[]⟩,⟨c20.i++[0],[],[]⟩,⟨c21.i++[0],[],[]⟩,⟨c22.i++[0],[],[]⟩,⟨[],c23.b++[false],[]⟩,⟨c24.i++[0],[],[]⟩,⟨c25.i++[0],[],[]⟩,⟨[],c26.b++[false],[]⟩,⟨c27.i++[0],[],[]⟩,⟨c28.i++[0],[],[]⟩,⟨c29.i++[0],[],[]⟩,⟨c30.i++[0],[],[]⟩,⟨[],c31.b++[false],[]⟩]⟩)))],[],[(0,0)]⟩
 |_,_=>none
def nextN:Prim Empty:=fun args hh=>match args,hh with
 |[.pointer (some ⟨0,0,none⟩)],[some (.inl (156,[.slice (some ⟨1,0,some 32000⟩) n cp,.slice (some ⟨2,0,some 1000⟩) fn fc,.int .i64 hd,.int .i64 ca,.int .i64 vi])),some (.inr (.inl (159,⟨tm,n2,[c0,c1,c2,c3,c4,c5,c6,c7,c8,c9,c10,c11,c12,c13,c14,c15,c16,c17,c18,c19,c20,c21,c22,c23,c24,c25,c26,c27,c28,c29,c30,c31]⟩))),some (.inr (.inl (3,⟨[.int .i64 0],f2,[⟨fr,[],[]⟩]⟩)))]=>some ⟨fn≠0/\f2=fn/\fr.length=fn/\fc=0/\cp=0/\fn<1000000/\tm=cellTm/\n2=n/\n<1000000/\ColsL n [c0,c1,c2,c3,c4,c5,c6,c7,c8,c9,c10,c11,c12,c13,c14,c15,c16,c17,c18,c19,c20,c21,c22,c23,c24,c25,c26,c27,c28,c29,c30,c31],.int .i64 (fr.getD (fn-1) 0),none,[some (.inl (156,[.slice (some ⟨1,0,some 32000⟩) n 0,.slice (some ⟨2,0,some 1000⟩) (fn-1) 0,.int .i64 hd,.int .i64 ca,.int .i64 vi])),some (.inr (.inl (159,⟨tm,n2,[c0,c1,c2,c3,c4,c5,c6,c7,c8,c9,c10,c11,c12,c13,c14,c15,c16,c17,c18,c19,c20,c21,c22,c23,c24,c25,c26,c27,c28,c29,c30,c31]⟩))),some (.inr (.inl (3,⟨[.int .i64 0],(fn-1),[⟨(fr.take (fn-1)),[],[]⟩]⟩)))],[],[(0,0)]⟩
 |_,_=>none
def nextC:Con Empty:=⟨nextW,nextY,nextN⟩
theorem nextY_ok:PrimOk NoR Tryz.prog 103 (way nextC true) (nextC.go true):=by
 refine prim_at (fn:=Tryz.f103) (root:=codeOf Tryz.f103) (by kernel_rfl) (by kernel_rfl) (by kernel_rfl) fun args hh x hx=>?_
 unfold nextC Con.go nextY at hx;simp only at hx;split at hx
 ·rename_i n cp fn fc hd ca vi tm n2 c0 c1 c2 c3 c4 c5 c6 c7 c8 c9 c10 c11 c12 c13 c14 c15 c16 c17 c18 c19 c20 c21 c22 c23 c24 c25 c26 c27 c28 c29 c30 c31 f2 fr;injection hx with hx
  subst hx;refine⟨by first|exact Nat.le_refl _|exact Nat.le_succ _,(fun b hb=>by cases hb),(fun hw=>by first|rfl|cases hw),fun hon hv=>?_⟩
  obtain⟨rfl,rfl,rfl,rfl,hv⟩:=hv;obtain⟨rfl,rfl,hv1,⟨⟨l0,rfl,hl0⟩,⟨l1,rfl,hl1⟩,⟨l2,rfl,hl2⟩,⟨l3,rfl,hl3⟩,⟨l4,rfl,hl4⟩,⟨l5,rfl,hl5⟩,⟨l6,rfl,hl6⟩,⟨l7,rfl,hl7⟩,⟨l8,rfl,hl8⟩,⟨l9,rfl,hl9⟩,⟨l10,rfl,hl10⟩,⟨l11,rfl,hl11⟩,⟨l12,rfl,hl12⟩,⟨l13,rfl,hl13⟩,⟨l14,rfl,hl14⟩,⟨l15,rfl,hl15⟩,⟨l16,rfl,hl16⟩,⟨l17,rfl,hl17⟩,⟨l18,rfl,hl18⟩,⟨l19,rfl,hl19⟩,⟨l20,rfl,hl20⟩,⟨l21,rfl,hl21⟩,⟨l22,rfl,hl22⟩,⟨l23,rfl,hl23⟩,⟨l24,rfl,hl24⟩,⟨l25,rfl,hl25⟩,⟨l26,rfl,hl26⟩,⟨l27,rfl,hl27⟩,⟨l28,rfl,hl28⟩,⟨l29,rfl,hl29⟩,⟨l30,rfl,hl30⟩,⟨l31,rfl,hl31⟩⟩⟩:=hv;clear hon;generalize hG:Rx.Ends (R:=Empty) _ _=G;refine rx_ok (T:=[]) trivial mixed 200 ?_;refine as_text (q:=let Z2:=Value.int IntKind.i64;let Z1:=(0:Int);Vc (fits (-1:Int))/\(true=true->Vc (0+n2≤n2/\1≤1/\(n2+1)*256≤140737488355328/\n2+1≤140737488355328)/\Vc (fits ((↑(n2+1):Int)-(1:Int)))/\Post (G (Z2 ((↑(n2+1):Int)-(1:Int))) [some (.inl (156,[Value.slice (some (Addr.mk 4 0 (some 32000))) (n2+1) 0,Value.slice (some (Addr.mk 2 0 (some 1000))) 0 0,Z2 hd,Z2 ca,Z2 vi])),none,some (.inr (.inl (3,Row.mk [Z2 0] 0 [Col.mk fr [] []]))),some (.inr (.inl (159,Row.mk cellTm 1 [Col.mk [Z1] [] [],Col.mk [] [false] [],Col.mk [Z1] [] [],Col.mk [Z1] [] [],Col.mk [] [false] [],Col.mk [] [false] [],Col.mk [Z1] [] [],Col.mk [Z1] [] [],Col.mk [Z1] [] [],Col.mk [Z1] [] [],Col.mk [Z1] [] [],Col.mk [Z1] [] [],Col.mk [Z1] [] [],Col.mk [Z1] [] [],Col.mk [Z1] [] [],Col.mk [Z1] [] [],Col.mk [Z1] [] [],Col.mk [Z1] [] [],Col.mk [Z1] [] [],Col.mk [Z1] [] [],Col.mk [Z1] [] [],Col.mk [Z1] [] [],Col.mk [Z1] [] [],Col.mk [] [false] [],Col.mk [Z1] [] [],Col.mk [Z1] [] [],Col.mk [] [false] [],Col.mk [Z1] [] [],Col.mk [Z1] [] [],Col.mk [Z1] [] [],Col.mk [Z1] [] [],Col.mk [] [false] []]))),some (.inr (.inl (159,Row.mk cellTm (n2+1) (cV (cut l0 0 n2++[Z1]) (cut l1 0 n2++[false]) (cut l2 0 n2++[Z1]) (cut l3 0 n2++[Z1]) (cut l4 0 n2++[false]) (cut l5 0 n2++[false]) (cut l6 0 n2++[Z1]) (cut l7 0 n2++[Z1]) (cut l8 0 n2++[Z1]) (cut l9 0 n2++[Z1]) (cut l10 0 n2++[Z1]) (cut l11 0 n2++[Z1]) (cut l12 0 n2++[Z1]) (cut l13 0 n2++[Z1]) (cut l14 0 n2++[Z1]) (cut l15 0 n2++[Z1]) (cut l16 0 n2++[Z1]) (cut l17 0 n2++[Z1]) (cut l18 0 n2++[Z1]) (cut l19 0 n2++[Z1]) (cut l20 0 n2++[Z1]) (cut l21 0 n2++[Z1]) (cut l22 0 n2++[Z1]) (cut l23 0 n2++[false]) (cut l24 0 n2++[Z1]) (cut l25 0 n2++[Z1]) (cut l26 0 n2++[false]) (cut l27 0 n2++[Z1]) (cut l28 0 n2++[Z1]) (cut l29 0 n2++[Z1]) (cut l30 0 n2++[Z1]) (cut l31 0 n2++[false])))))]))/\(true=false->Vc (Z1≤(-1:Int)/\(-1:Int)<Z1/\0≤0)/\Vc (0<0)/\Vc (Z1≤(-1:Int)/\(-1:Int)≤Z1/\0≤0)/\Post (G (Z2 (List.getD fr 0 Z1)) [some (.inl (156,[Value.slice (some (Addr.mk 1 0 (some 32000))) n2 0,Value.slice (some (Addr.mk 2 0 (some 1000))) 0 0,Z2 hd,Z2 ca,Z2 vi])),some (.inr (.inl (159,Row.mk cellTm n2 (cV l0 l1 l2 l3 l4 l5 l6 l7 l8 l9 l10 l11 l12 l13 l14 l15 l16 l17 l18 l19 l20 l21 l22 l23 l24 l25 l26 l27 l28 l29 l30 l31)))),some (.inr (.inl (3,Row.mk [Z2 0] 0 [Col.mk fr [] []])))]))) ?_ (by kernel_rfl)
  intro Z2 Z1;subst Z1 Z2;subst hG;refine⟨fits_m1,fun _=>⟨nx_cap hv1,nx_fits hv1,⟨?_⟩⟩,fun h=>by cases h⟩
  simp only[cut_eq hl0,cut_eq hl1,cut_eq hl2,cut_eq hl3,cut_eq hl4,cut_eq hl5,cut_eq hl6,cut_eq hl7,cut_eq hl8,cut_eq hl9,cut_eq hl10,cut_eq hl11,cut_eq hl12,cut_eq hl13,cut_eq hl14,cut_eq hl15,cut_eq hl16,cut_eq hl17,cut_eq hl18,cut_eq hl19,cut_eq hl20,cut_eq hl21,cut_eq hl22,cut_eq hl23,cut_eq hl24,cut_eq hl25,cut_eq hl26,cut_eq hl27,cut_eq hl28,cut_eq hl29,cut_eq hl30,cut_eq hl31,nx_e1];exact⟨[0,1,2,4],rfl,rfl,⟨.inl rfl,⟨_,rfl,.inl rfl⟩,⟨_,rfl,.inl rfl⟩,trivial⟩,rfl,rfl,rfl,(by kernel_rfl)⟩
 ·cases hx
theorem nextN_ok:PrimOk NoR Tryz.prog 103 (way nextC false) (nextC.go false):=by
 refine prim_at (fn:=Tryz.f103) (root:=codeOf Tryz.f103) (by kernel_rfl) (by kernel_rfl) (by kernel_rfl) fun args hh x hx=>?_
 unfold nextC Con.go nextN at hx;simp only at hx;split at hx
 ·rename_i n cp fn fc hd ca vi tm n2 c0 c1 c2 c3 c4 c5 c6 c7 c8 c9 c10 c11 c12 c13 c14 c15 c16 c17 c18 c19 c20 c21 c22 c23 c24 c25 c26 c27 c28 c29 c30 c31 f2 fr;injection hx with hx
  subst hx;refine⟨by first|exact Nat.le_refl _|exact Nat.le_succ _,(fun b hb=>by cases hb),(fun hw=>by first|rfl|cases hw),fun hon hv=>?_⟩
  obtain⟨h0,rfl,hf,rfl,rfl,hv2,hv⟩:=hv;obtain⟨rfl,rfl,hv1,⟨⟨l0,rfl,hl0⟩,⟨l1,rfl,hl1⟩,⟨l2,rfl,hl2⟩,⟨l3,rfl,hl3⟩,⟨l4,rfl,hl4⟩,⟨l5,rfl,hl5⟩,⟨l6,rfl,hl6⟩,⟨l7,rfl,hl7⟩,⟨l8,rfl,hl8⟩,⟨l9,rfl,hl9⟩,⟨l10,rfl,hl10⟩,⟨l11,rfl,hl11⟩,⟨l12,rfl,hl12⟩,⟨l13,rfl,hl13⟩,⟨l14,rfl,hl14⟩,⟨l15,rfl,hl15⟩,⟨l16,rfl,hl16⟩,⟨l17,rfl,hl17⟩,⟨l18,rfl,hl18⟩,⟨l19,rfl,hl19⟩,⟨l20,rfl,hl20⟩,⟨l21,rfl,hl21⟩,⟨l22,rfl,hl22⟩,⟨l23,rfl,hl23⟩,⟨l24,rfl,hl24⟩,⟨l25,rfl,hl25⟩,⟨l26,rfl,hl26⟩,⟨l27,rfl,hl27⟩,⟨l28,rfl,hl28⟩,⟨l29,rfl,hl29⟩,⟨l30,rfl,hl30⟩,⟨l31,rfl,hl31⟩⟩⟩:=hv;clear hon;generalize hG:Rx.Ends (R:=Empty) _ _=G;refine rx_ok (T:=[]) trivial mixed 200 ?_;refine as_text (q:=let Z2:=Value.int IntKind.i64;let Z1:=(0:Int);Vc (fits ((↑f2:Int)-(1:Int)))/\(decide ((↑f2:Int)-(1:Int)<Z1)=true->Vc (0+n2≤n2/\1≤1/\(n2+1)*256≤140737488355328/\n2+1≤140737488355328)/\Vc (fits ((↑(n2+1):Int)-(1:Int)))/\Post (G (Z2 ((↑(n2+1):Int)-(1:Int))) [some (.inl (156,[Value.slice (some (Addr.mk 4 0 (some 32000))) (n2+1) 0,Value.slice (some (Addr.mk 2 0 (some 1000))) f2 0,Z2 hd,Z2 ca,Z2 vi])),none,some (.inr (.inl (3,Row.mk [Z2 0] f2 [Col.mk fr [] []]))),some (.inr (.inl (159,Row.mk cellTm 1 [Col.mk [Z1] [] [],Col.mk [] [false] [],Col.mk [Z1] [] [],Col.mk [Z1] [] [],Col.mk [] [false] [],Col.mk [] [false] [],Col.mk [Z1] [] [],Col.mk [Z1] [] [],Col.mk [Z1] [] [],Col.mk [Z1] [] [],Col.mk [Z1] [] [],Col.mk [Z1] [] [],Col.mk [Z1] [] [],Col.mk [Z1] [] [],Col.mk [Z1] [] [],Col.mk [Z1] [] [],Col.mk [Z1] [] [],Col.mk [Z1] [] [],Col.mk [Z1] [] [],Col.mk [Z1] [] [],Col.mk [Z1] [] [],Col.mk [Z1] [] [],Col.mk [Z1] [] [],Col.mk [] [false] [],Col.mk [Z1] [] [],Col.mk [Z1] [] [],Col.mk [] [false] [],Col.mk [Z1] [] [],Col.mk [Z1] [] [],Col.mk [Z1] [] [],Col.mk [Z1] [] [],Col.mk [] [false] []]))),some (.inr (.inl (159,Row.mk cellTm (n2+1) (cV (cut l0 0 n2++[Z1]) (cut l1 0 n2++[false]) (cut l2 0 n2++[Z1]) (cut l3 0 n2++[Z1]) (cut l4 0 n2++[false]) (cut l5 0 n2++[false]) (cut l6 0 n2++[Z1]) (cut l7 0 n2++[Z1]) (cut l8 0 n2++[Z1]) (cut l9 0 n2++[Z1]) (cut l10 0 n2++[Z1]) (cut l11 0 n2++[Z1]) (cut l12 0 n2++[Z1]) (cut l13 0 n2++[Z1]) (cut l14 0 n2++[Z1]) (cut l15 0 n2++[Z1]) (cut l16 0 n2++[Z1]) (cut l17 0 n2++[Z1]) (cut l18 0 n2++[Z1]) (cut l19 0 n2++[Z1]) (cut l20 0 n2++[Z1]) (cut l21 0 n2++[Z1]) (cut l22 0 n2++[Z1]) (cut l23 0 n2++[false]) (cut l24 0 n2++[Z1]) (cut l25 0 n2++[Z1]) (cut l26 0 n2++[false]) (cut l27 0 n2++[Z1]) (cut l28 0 n2++[Z1]) (cut l29 0 n2++[Z1]) (cut l30 0 n2++[Z1]) (cut l31 0 n2++[false])))))]))/\(decide ((↑f2:Int)-(1:Int)<Z1)=false->Vc (Z1≤(↑f2:Int)-(1:Int)/\(↑f2:Int)-(1:Int)<(↑f2:Int)/\0+f2≤f2)/\Vc (0+Int.toNat ((↑f2:Int)-(1:Int))<f2)/\Vc (Z1≤(↑f2:Int)-(1:Int)/\(↑f2:Int)-(1:Int)≤(↑f2:Int)/\0+f2≤f2)/\Post (G (Z2 (List.getD fr (0+Int.toNat ((↑f2:Int)-(1:Int))) Z1)) [some (.inl (156,[Value.slice (some (Addr.mk 1 0 (some 32000))) n2 0,Value.slice (some (Addr.mk 2 0 (some 1000))) (Int.toNat ((↑f2:Int)-(1:Int))) 0,Z2 hd,Z2 ca,Z2 vi])),some (.inr (.inl (159,Row.mk cellTm n2 (cV l0 l1 l2 l3 l4 l5 l6 l7 l8 l9 l10 l11 l12 l13 l14 l15 l16 l17 l18 l19 l20 l21 l22 l23 l24 l25 l26 l27 l28 l29 l30 l31)))),some (.inr (.inl (3,Row.mk [Z2 0] f2 [Col.mk fr [] []])))]))) ?_ (by kernel_rfl)
  intro Z2 Z1;subst Z1 Z2;subst hG;clear hl0 hl1 hl2 hl3 hl4 hl5 hl6 hl7 hl8 hl9 hl10 hl11 hl12 hl13 hl14 hl15 hl16 hl17 hl18 hl19 hl20 hl21 hl22 hl23 hl24 hl25 hl26 hl27 hl28 hl29 hl30 hl31;have e1:((f2:Int)-1).toNat=f2-1:=by omega
  simp only[e1,Nat.zero_add];refine⟨⟨by omega,by omega⟩,fun h=>absurd (of_decide_eq_true h) (by omega),fun _=>⟨⟨by omega,by omega,by omega⟩,⟨by omega⟩,⟨by omega,by omega,by omega⟩,⟨?_⟩⟩⟩
  exact⟨[0,1,2],rfl,rfl,⟨.inl rfl,⟨_,rfl,.inl rfl⟩,⟨_,rfl,.inr ⟨rfl,Nat.sub_le _ _,by simp[headCol]⟩⟩,trivial⟩,rfl,rfl,rfl,(by kernel_rfl)⟩
 ·cases hx
theorem next_ok:ConOk NoR Tryz.prog 103 nextC:=fun b=>by cases b;exact nextN_ok;exact nextY_ok
def TA:Tab Empty:=[(103,liftC zN 2 nextC),(113,liftC zN 2 visitC)]
theorem TA_ok:TabOk NoR Tryz.prog TA:=⟨liftC_ok _ _ next_ok,liftC_ok _ _ visit_ok,trivial⟩
abbrev PP (m:Pl):Prop:=Gv.POk 100000 m
theorem hasC_eq (m:Pl) (i g:Int):hasC m.vs.length m.gens m.live i g=Gv.has m ⟨i,g⟩:=rfl
theorem has_at {m:Pl} {i g:Int} (h:Gv.has m ⟨i,g⟩=true):0≤i/\i<m.vs.length/\m.live.getD i.toNat false=true/\m.gens.getD i.toNat 0=g:=Gv.has_spec h
theorem map_get {α:Type} (f:Nd->α) (m:Pl) (k:Nat) (a:α) (ha:f zd=a):(m.vs.map f).getD k a=f (m.vs.getD k zd):=by
 subst ha;simp only[List.getD_eq_getElem?_getD,List.getElem?_map];cases m.vs[k]?<;>rfl
theorem get_val (m:Pl) (k:Nat):gM m.vs k=ndL (m.vs.getD k zd):=by
 unfold gM ndL;simp only[map_get (fun n:Nd=>n.e.t) m _ 0 rfl,map_get (fun n:Nd=>n.e.ins) m _ false rfl,map_get (fun n:Nd=>n.e.it.k) m _ 0 rfl,map_get (fun n:Nd=>n.e.it.i) m _ 0 rfl,map_get (fun n:Nd=>n.e.here) m _ false rfl,map_get (fun n:Nd=>n.e.tf) m _ false rfl,map_get (fun n:Nd=>n.e.tk.k) m _ 0 rfl,map_get (fun n:Nd=>n.e.tk.i) m _ 0 rfl,map_get (fun n:Nd=>n.l.i) m _ 0 rfl,map_get (fun n:Nd=>n.l.g) m _ 0 rfl,map_get (fun n:Nd=>n.r.i) m _ 0 rfl,map_get (fun n:Nd=>n.r.g) m _ 0 rfl,map_get (fun n:Nd=>n.all.n) m _ 0 rfl,map_get (fun n:Nd=>n.all.sum.c.n) m _ 0 rfl,map_get (fun n:Nd=>n.all.sum.c.s) m _ 0 rfl,map_get (fun n:Nd=>n.all.sum.c.l) m _ 0 rfl,map_get (fun n:Nd=>n.all.sum.w.n) m _ 0 rfl,map_get (fun n:Nd=>n.all.sum.w.s) m _ 0 rfl,map_get (fun n:Nd=>n.all.sum.w.l) m _ 0 rfl,map_get (fun n:Nd=>n.all.sum.d) m _ 0 rfl,map_get (fun n:Nd=>n.all.sum.f) m _ 0 rfl,map_get (fun n:Nd=>n.all.sum.m.k) m _ 0 rfl,map_get (fun n:Nd=>n.all.sum.m.i) m _ 0 rfl,map_get (fun n:Nd=>n.all.sum.gf) m _ false rfl,map_get (fun n:Nd=>n.all.sum.g.k) m _ 0 rfl,map_get (fun n:Nd=>n.all.sum.g.i) m _ 0 rfl,map_get (fun n:Nd=>n.all.sum.lf) m _ false rfl,map_get (fun n:Nd=>n.all.sum.l.k) m _ 0 rfl,map_get (fun n:Nd=>n.all.sum.l.i) m _ 0 rfl,map_get (fun n:Nd=>n.h) m _ 0 rfl]
theorem set_row (m:Pl) (k:Nat) (x:Nd) (g:List Int) (b:List Bool):(⟨cellTm,m.vs.length,cS m.vs k x g b⟩:Row)=⟨cellTm,(m.vs.set k x).length,cM (m.vs.set k x) g b⟩:=by
 unfold cS cM;simp only[List.map_set,List.length_set]
theorem len_map {α:Type} (f:Nd->α) (m:Pl):(m.vs.map f).length=m.vs.length:=List.length_map ..
theorem cols_of {m:Pl} (hv:PP m):ColsL m.vs.length (cM m.vs m.gens m.live):=⟨⟨_,rfl,len_map _ m⟩,⟨_,rfl,len_map _ m⟩,⟨_,rfl,len_map _ m⟩,⟨_,rfl,len_map _ m⟩,⟨_,rfl,len_map _ m⟩,⟨_,rfl,len_map _ m⟩,⟨_,rfl,len_map _ m⟩,⟨_,rfl,len_map _ m⟩,⟨_,rfl,len_map _ m⟩,⟨_,rfl,len_map _ m⟩,⟨_,rfl,len_map _ m⟩,⟨_,rfl,len_map _ m⟩,⟨_,rfl,len_map _ m⟩,⟨_,rfl,len_map _ m⟩,⟨_,rfl,len_map _ m⟩,⟨_,rfl,len_map _ m⟩,⟨_,rfl,len_map _ m⟩,⟨_,rfl,len_map _ m⟩,⟨_,rfl,len_map _ m⟩,⟨_,rfl,len_map _ m⟩,⟨_,rfl,len_map _ m⟩,⟨_,rfl,len_map _ m⟩,⟨_,rfl,len_map _ m⟩,⟨_,rfl,len_map _ m⟩,⟨_,rfl,len_map _ m⟩,⟨_,rfl,len_map _ m⟩,⟨_,rfl,len_map _ m⟩,⟨_,rfl,len_map _ m⟩,⟨_,rfl,len_map _ m⟩,⟨_,rfl,len_map _ m⟩,⟨_,rfl,hv.gens⟩,⟨_,rfl,hv.live⟩⟩
theorem vis_ok {m:Pl} (hv:PP m):True/\True/\m.vs.length<1000000/\ColsL m.vs.length (cM m.vs m.gens m.live):=⟨trivial,trivial,by have:=hv.cells;omega,cols_of hv⟩
def newP:Prim Rs:=fun args hh=>match args,hh with
 |[.int .i64 c],[]=>some ⟨True,.pointer (some ⟨0,0,none⟩),none,[some (.inr (.inr (.inr (.pool ⟨[],[],[],[],0,min (max c 0) 16777216,0⟩))))],[],[(0,0)]⟩
 |_,_=>none
theorem new_ok:ConOk D Tryz.prog 98 (con1 newP):=by
 refine con1_ok (res_prim (L:=L) (D0:=NoR) (fn:=Tryz.f98) (root:=codeOf Tryz.f98) (by kernel_rfl) (by kernel_rfl) (by kernel_rfl) fun args hh x hx=>?_)
 unfold newP at hx;split at hx
 ·rename_i c;injection hx with hx
  subst hx;refine q4 fun _ hv=>?_
  generalize hG:EndsU (R:=Rs) (R0:=Empty) _ _ _=G;refine rx_ok (T:=TA) TA_ok mixed 200 ?_;refine as_text (q:=Post (G (Value.pointer (some (Addr.mk 0 0 none))) [some (.inl (156,[Value.slice none 0 0,Value.slice none 0 0,Value.int IntKind.i64 0,Value.int IntKind.i64 (if(16777216:Int)<if(0:Int)>c then(0:Int) else c then(16777216:Int) else if(0:Int)>c then(0:Int) else c),Value.int IntKind.i64 0]))])) ?_ (by kernel_rfl)
  subst hG;have e:(if 16777216<if 0>c then 0 else c then 16777216 else if 0>c then 0 else c)=min (max c 0) 16777216:=by
   by_cases h1:0>c
   ·rw[if_pos h1];simp;omega
   ·rw[if_neg h1];split<;>omega
  rw[e];refine⟨⟨[0,1,1],rfl,rfl,⟨.inl rfl,⟨rfl,Nat.succ_pos _,rfl⟩,⟨rfl,Nat.succ_pos _,rfl⟩,trivial⟩,rfl,rfl,rfl,rfl,rfl⟩⟩
 ·cases hx
def getP:Prim Rs:=fun args hh=>match args,hh with
 |[.pointer (some ⟨0,0,none⟩),.agg ⟨[.int .i64 i,.int .i64 g]⟩],[some (.inr (.inr (.inr (.pool m))))]=>some ⟨PP m,.tuple #[.agg ⟨ndL (Gv.look zd m ⟨i,g⟩)⟩,.bool (Gv.has m ⟨i,g⟩)],none,[some (.inr (.inr (.inr (.pool (Gv.see m ⟨i,g⟩)))))],[],[(0,0)]⟩
 |_,_=>none
theorem get_ok:ConOk D Tryz.prog 97 (con1 getP):=by
 refine con1_ok (res_prim (L:=L) (D0:=NoR) (fn:=Tryz.f97) (root:=codeOf Tryz.f97) (by kernel_rfl) (by kernel_rfl) (by kernel_rfl) fun args hh x hx=>?_)
 unfold getP at hx;split at hx
 ·rename_i i g m;injection hx with hx
  subst hx;refine q4 fun _ hv=>?_
  generalize hG:EndsU (R:=Rs) (R0:=Empty) _ _ _=G;refine rx_ok (T:=TA) TA_ok mixed 200 ?_;refine as_text (q:=let Z3:=Value.int IntKind.i64;let Z1:=(List.length (Gv.PM.vs m));let Z2:=(ndL (Gv.Node.mk (Wv.Mk.mk 0 false (Wv.It.mk 0 0) false false (Wv.It.mk 0 0)) (Gv.Ref.mk 0 0) (Gv.Ref.mk 0 0) (Gv.Part.mk 0 (Wv.Sw.mk (Ti.Td.mk 0 0 0) (Ti.Td.mk 0 0 0) 0 0 (Wv.It.mk 0 0) false (Wv.It.mk 0 0) false (Wv.It.mk 0 0))) 0));(hasC Z1 (Gv.PM.gens m) (Gv.PM.live m) i g=true->Vc (cellTm=cellTm/\List.length (Gv.PM.vs m)=List.length (Gv.PM.vs m)/\List.length (Gv.PM.vs m)<1000000/\ColsL Z1 (cM (Gv.PM.vs m) (Gv.PM.gens m) (Gv.PM.live m)))/\Vc (Int.toNat i<List.length (Gv.PM.vs m))/\Post (G (Value.tuple (Array.mk [Value.agg (Array.mk (gM (Gv.PM.vs m) (Int.toNat i))),Value.bool true])) [some (.inl (156,[Value.slice (some (Addr.mk 1 0 (some 32000))) Z1 0,Value.slice (some (Addr.mk 2 0 (some 1000))) (List.length (Gv.PM.free m)) 0,Z3 (Gv.PM.held m),Z3 (Gv.PM.cap m),Z3 (IntKind.wrap IntKind.i64 (Gv.PM.visits m+(1:Int)))])),some (.inr (.inl (159,Row.mk cellTm Z1 (cM (Gv.PM.vs m) (Gv.PM.gens m) (Gv.PM.live m))))),some (.inr (.inl (3,Row.mk [Z3 0] (List.length (Gv.PM.free m)) [Col.mk (Gv.PM.free m) [] []]))),some (.inl (90,[Z3 i,Z3 g])),some (.inl (119,(gM (Gv.PM.vs m) (Int.toNat i))))]))/\(hasC Z1 (Gv.PM.gens m) (Gv.PM.live m) i g=false->Vc (cellTm=cellTm/\List.length (Gv.PM.vs m)=List.length (Gv.PM.vs m)/\List.length (Gv.PM.vs m)<1000000/\ColsL Z1 (cM (Gv.PM.vs m) (Gv.PM.gens m) (Gv.PM.live m)))/\Post (G (Value.tuple (Array.mk [Value.agg (Array.mk Z2),Value.bool false])) [some (.inl (156,[Value.slice (some (Addr.mk 1 0 (some 32000))) Z1 0,Value.slice (some (Addr.mk 2 0 (some 1000))) (List.length (Gv.PM.free m)) 0,Z3 (Gv.PM.held m),Z3 (Gv.PM.cap m),Z3 (Gv.PM.visits m)])),some (.inr (.inl (159,Row.mk cellTm Z1 (cM (Gv.PM.vs m) (Gv.PM.gens m) (Gv.PM.live m))))),some (.inr (.inl (3,Row.mk [Z3 0] (List.length (Gv.PM.free m)) [Col.mk (Gv.PM.free m) [] []]))),some (.inl (90,[Z3 i,Z3 g])),some (.inl (119,Z2)),some (.inl (119,Z2))]))) ?_ (by kernel_rfl)
  intro Z3 Z1 Z2;subst Z2 Z1 Z3;subst hG;simp only[hasC_eq,Nat.zero_add];refine⟨fun h=>⟨⟨vis_ok hv⟩,⟨by have:=has_at h;omega⟩,⟨?_⟩⟩,fun h=>⟨⟨vis_ok hv⟩,⟨?_⟩⟩⟩
  ·have e1:Gv.look zd m ⟨i,g⟩=m.vs.getD i.toNat zd:=by unfold Gv.look;rw[if_pos h]
   have e2:Gv.see m ⟨i,g⟩=Gv.seen m:=by unfold Gv.see;rw[if_pos h]
   rw[get_val m i.toNat,e1,e2,h];exact⟨[0,1,2],rfl,rfl,⟨.inl rfl,⟨_,rfl,.inl rfl⟩,⟨_,rfl,.inl rfl⟩,trivial⟩,rfl,rfl,rfl,rfl,rfl⟩
  ·have e1:Gv.look zd m ⟨i,g⟩=zd:=by unfold Gv.look;rw[if_neg (by rw[h];decide)]
   have e2:Gv.see m ⟨i,g⟩=m:=by unfold Gv.see;rw[if_neg (by rw[h];decide)]
   rw[e1,e2,h];exact⟨[0,1,2],rfl,rfl,⟨.inl rfl,⟨_,rfl,.inl rfl⟩,⟨_,rfl,.inl rfl⟩,trivial⟩,rfl,rfl,rfl,rfl,rfl⟩
 ·cases hx
def setP:Prim Rs:=fun args hh=>match args,hh with
 |[.pointer (some ⟨0,0,none⟩),.agg ⟨[.int .i64 i,.int .i64 g]⟩,.agg ⟨xN⟩],[some (.inr (.inr (.inr (.pool m))))]=>some ⟨xN=ndL (ndOf xN)/\PP m,.bool (Gv.has m ⟨i,g⟩),none,[some (.inr (.inr (.inr (.pool (Gv.put1 m ⟨i,g⟩ (ndOf xN))))))],[],[(0,0)]⟩
 |_,_=>none
theorem set_ok:ConOk D Tryz.prog 130 (con1 setP):=by
 refine con1_ok (res_prim (L:=L) (D0:=NoR) (fn:=Tryz.f130) (root:=codeOf Tryz.f130) (by kernel_rfl) (by kernel_rfl) (by kernel_rfl) fun args hh x hx=>?_)
 unfold setP at hx;split at hx
 ·rename_i i g xN m;injection hx with hx
  subst hx;refine q4 fun _ hv=>?_
  obtain⟨hq,hv⟩:=hv;generalize ndOf xN=x at *;subst hq
  generalize hG:EndsU (R:=Rs) (R0:=Empty) _ _ _=G;refine rx_ok (T:=TA) TA_ok mixed 200 ?_;refine as_text (q:=let Z2:=Value.int IntKind.i64;let Z1:=(List.length (Gv.PM.vs m));(hasC Z1 (Gv.PM.gens m) (Gv.PM.live m) i g=true->Vc (cellTm=cellTm/\List.length (Gv.PM.vs m)=List.length (Gv.PM.vs m)/\List.length (Gv.PM.vs m)<1000000/\ColsL Z1 (cM (Gv.PM.vs m) (Gv.PM.gens m) (Gv.PM.live m)))/\Vc (Int.toNat i<List.length (Gv.PM.vs m))/\Post (G (Value.bool true) [some (.inl (156,[Value.slice (some (Addr.mk 1 0 (some 32000))) Z1 0,Value.slice (some (Addr.mk 2 0 (some 1000))) (List.length (Gv.PM.free m)) 0,Z2 (Gv.PM.held m),Z2 (Gv.PM.cap m),Z2 (IntKind.wrap IntKind.i64 (Gv.PM.visits m+(1:Int)))])),some (.inr (.inl (159,Row.mk cellTm Z1 (cS (Gv.PM.vs m) (Int.toNat i) x (Gv.PM.gens m) (Gv.PM.live m))))),some (.inr (.inl (3,Row.mk [Z2 0] (List.length (Gv.PM.free m)) [Col.mk (Gv.PM.free m) [] []]))),some (.inl (90,[Z2 i,Z2 g])),some (.inl (119,(ndL x)))]))/\(hasC Z1 (Gv.PM.gens m) (Gv.PM.live m) i g=false->Vc (cellTm=cellTm/\List.length (Gv.PM.vs m)=List.length (Gv.PM.vs m)/\List.length (Gv.PM.vs m)<1000000/\ColsL Z1 (cM (Gv.PM.vs m) (Gv.PM.gens m) (Gv.PM.live m)))/\Post (G (Value.bool false) [some (.inl (156,[Value.slice (some (Addr.mk 1 0 (some 32000))) Z1 0,Value.slice (some (Addr.mk 2 0 (some 1000))) (List.length (Gv.PM.free m)) 0,Z2 (Gv.PM.held m),Z2 (Gv.PM.cap m),Z2 (Gv.PM.visits m)])),some (.inr (.inl (159,Row.mk cellTm Z1 (cM (Gv.PM.vs m) (Gv.PM.gens m) (Gv.PM.live m))))),some (.inr (.inl (3,Row.mk [Z2 0] (List.length (Gv.PM.free m)) [Col.mk (Gv.PM.free m) [] []]))),some (.inl (90,[Z2 i,Z2 g])),some (.inl (119,(ndL x)))]))) ?_ (by kernel_rfl)
  intro Z2 Z1;subst Z1 Z2;subst hG;simp only[hasC_eq,Nat.zero_add];refine⟨fun h=>⟨⟨vis_ok hv⟩,⟨by have:=has_at h;omega⟩,⟨?_⟩⟩,fun h=>⟨⟨vis_ok hv⟩,⟨?_⟩⟩⟩
  ·have e2:∀ y,Gv.put1 m ⟨i,g⟩ y={ Gv.seen m with vs:=m.vs.set i.toNat y }:=fun y=>by unfold Gv.put1;rw[if_pos h]
   rw[e2,h];exact⟨[0,1,2],rfl,rfl,⟨.inl (by rw[List.length_set];rfl),⟨_,rfl,.inl (set_row m i.toNat x _ _).symm⟩,⟨_,rfl,.inl rfl⟩,trivial⟩,rfl,rfl,rfl,rfl,rfl⟩
  ·have e2:∀ y,Gv.put1 m ⟨i,g⟩ y=m:=fun y=>by unfold Gv.put1;rw[if_neg (by rw[h];decide)]
   rw[e2,h];exact⟨[0,1,2],rfl,rfl,⟨.inl rfl,⟨_,rfl,.inl rfl⟩,⟨_,rfl,.inl rfl⟩,trivial⟩,rfl,rfl,rfl,rfl,rfl⟩
 ·cases hx
def visitsP:Prim Rs:=fun args hh=>match args,hh with
 |[.pointer (some ⟨0,0,none⟩)],[some (.inr (.inr (.inr (.pool m))))]=>some ⟨True,.int .i64 m.visits,none,hh,[],[]⟩
 |_,_=>none
theorem visits_ok:ConOk D Tryz.prog 93 (con1 visitsP):=by
 refine con1_ok (res_prim (L:=L) (D0:=NoR) (fn:=Tryz.f93) (root:=codeOf Tryz.f93) (by kernel_rfl) (by kernel_rfl) (by kernel_rfl) fun args hh x hx=>?_)
 unfold visitsP at hx;split at hx
 ·rename_i m;injection hx with hx
  subst hx;refine q4 fun _ hv=>?_
  generalize hG:EndsU (R:=Rs) (R0:=Empty) _ _ _=G;refine rx_ok (T:=TA) TA_ok mixed 200 ?_;refine as_text (q:=let Z1:=Value.int IntKind.i64;Post (G (Z1 (Gv.PM.visits m)) [some (.inl (156,[Value.slice (some (Addr.mk 1 0 (some 32000))) (List.length (Gv.PM.vs m)) 0,Value.slice (some (Addr.mk 2 0 (some 1000))) (List.length (Gv.PM.free m)) 0,Z1 (Gv.PM.held m),Z1 (Gv.PM.cap m),Z1 (Gv.PM.visits m)])),some (.inr (.inl (159,Row.mk cellTm (List.length (Gv.PM.vs m)) (cM (Gv.PM.vs m) (Gv.PM.gens m) (Gv.PM.live m))))),some (.inr (.inl (3,Row.mk [Z1 0] (List.length (Gv.PM.free m)) [Col.mk (Gv.PM.free m) [] []])))])) ?_ (by kernel_rfl)
  intro Z1;subst Z1;subst hG;exact⟨⟨[0,1,2],rfl,rfl,⟨.inl rfl,⟨_,rfl,.inl rfl⟩,⟨_,rfl,.inl rfl⟩,trivial⟩,rfl,rfl,rfl,rfl,rfl⟩⟩
 ·cases hx
def dropP:Prim Rs:=fun args hh=>match args,hh with
 |[.pointer (some ⟨0,0,none⟩),.agg ⟨[.int .i64 i,.int .i64 g]⟩],[some (.inr (.inr (.inr (.pool m))))]=>some ⟨PP m,.tuple #[.agg ⟨ndL (Gv.look zd m ⟨i,g⟩)⟩,.bool (Gv.has m ⟨i,g⟩)],none,[some (.inr (.inr (.inr (.pool (Gv.drop zd m ⟨i,g⟩)))))],[],[(0,0)]⟩
 |_,_=>none
theorem drop_ok:ConOk D Tryz.prog 90 (con1 dropP):=by
 refine con1_ok (res_prim (L:=L) (D0:=NoR) (fn:=Tryz.f90) (root:=codeOf Tryz.f90) (by kernel_rfl) (by kernel_rfl) (by kernel_rfl) fun args hh x hx=>?_)
 unfold dropP at hx;split at hx
 ·rename_i i g m;injection hx with hx
  subst hx;refine q4 fun _ hv=>?_
  generalize hG:EndsU (R:=Rs) (R0:=Empty) _ _ _=G;refine rx_ok (T:=TA) TA_ok mixed 200 ?_;refine as_text (q:=let Z7:=Value.int IntKind.i64;let Z1:=(List.length (Gv.PM.vs m));let Z2:=(Int.toNat i<List.length (Gv.PM.vs m));let Z3:=(List.getD (Gv.PM.gens m) (Int.toNat i) (0:Int)<(4294967295:Int));let Z4:=(Value.tuple (Array.mk [Value.agg (Array.mk (gM (Gv.PM.vs m) (Int.toNat i))),Value.bool true]));let Z5:=(ndL (Gv.Node.mk (Wv.Mk.mk 0 false (Wv.It.mk 0 0) false false (Wv.It.mk 0 0)) (Gv.Ref.mk 0 0) (Gv.Ref.mk 0 0) (Gv.Part.mk 0 (Wv.Sw.mk (Ti.Td.mk 0 0 0) (Ti.Td.mk 0 0 0) 0 0 (Wv.It.mk 0 0) false (Wv.It.mk 0 0) false (Wv.It.mk 0 0))) 0));let Z6:=(List.length (Gv.PM.free m));(hasC Z1 (Gv.PM.gens m) (Gv.PM.live m) i g=true->Vc (cellTm=cellTm/\List.length (Gv.PM.vs m)=List.length (Gv.PM.vs m)/\List.length (Gv.PM.vs m)<1000000/\ColsL Z1 (cM (Gv.PM.vs m) (Gv.PM.gens m) (Gv.PM.live m)))/\Vc Z2/\Vc Z2/\Vc Z2/\Vc (fits (Gv.PM.held m-(1:Int)))/\Vc Z2/\(decide Z3=true->Vc (0+List.length (Gv.PM.free m)≤List.length (Gv.PM.free m)/\1≤1/\(List.length (Gv.PM.free m)+1)*8≤140737488355328/\List.length (Gv.PM.free m)+1≤140737488355328)/\Post (G Z4 [some (.inl (156,[Value.slice (some (Addr.mk 1 0 (some 32000))) Z1 0,Value.slice (some (Addr.mk 8 0 (some 1000))) (List.length (Gv.PM.free m)+1) 0,Z7 (Gv.PM.held m-(1:Int)),Z7 (Gv.PM.cap m),Z7 (IntKind.wrap IntKind.i64 (Gv.PM.visits m+(1:Int)))])),some (.inr (.inl (159,Row.mk cellTm Z1 (cS (Gv.PM.vs m) (Int.toNat i) zd (Gv.PM.gens m) (List.set (Gv.PM.live m) (Int.toNat i) false))))),none,some (.inl (90,[Z7 i,Z7 g])),some (.inl (119,(gM (Gv.PM.vs m) (Int.toNat i)))),some (.inl (119,Z5)),some (.inl (119,(gM (Gv.PM.vs m) (Int.toNat i)))),some (.inr (.inl (3,Row.mk [Z7 0] 1 [Col.mk [i] [] []]))),some (.inr (.inl (3,Row.mk [Z7 0] (List.length (Gv.PM.free m)+1) [Col.mk (cut (Gv.PM.free m) 0 Z6++cut [i] 0 1) [] []])))]))/\(decide Z3=false->Post (G Z4 [some (.inl (156,[Value.slice (some (Addr.mk 1 0 (some 32000))) Z1 0,Value.slice (some (Addr.mk 2 0 (some 1000))) Z6 0,Z7 (Gv.PM.held m-(1:Int)),Z7 (Gv.PM.cap m),Z7 (IntKind.wrap IntKind.i64 (Gv.PM.visits m+(1:Int)))])),some (.inr (.inl (159,Row.mk cellTm Z1 (cS (Gv.PM.vs m) (Int.toNat i) zd (Gv.PM.gens m) (List.set (Gv.PM.live m) (Int.toNat i) false))))),some (.inr (.inl (3,Row.mk [Z7 0] Z6 [Col.mk (Gv.PM.free m) [] []]))),some (.inl (90,[Z7 i,Z7 g])),some (.inl (119,(gM (Gv.PM.vs m) (Int.toNat i)))),some (.inl (119,Z5)),some (.inl (119,(gM (Gv.PM.vs m) (Int.toNat i))))])))/\(hasC Z1 (Gv.PM.gens m) (Gv.PM.live m) i g=false->Vc (cellTm=cellTm/\List.length (Gv.PM.vs m)=List.length (Gv.PM.vs m)/\List.length (Gv.PM.vs m)<1000000/\ColsL Z1 (cM (Gv.PM.vs m) (Gv.PM.gens m) (Gv.PM.live m)))/\Post (G (Value.tuple (Array.mk [Value.agg (Array.mk Z5),Value.bool false])) [some (.inl (156,[Value.slice (some (Addr.mk 1 0 (some 32000))) Z1 0,Value.slice (some (Addr.mk 2 0 (some 1000))) Z6 0,Z7 (Gv.PM.held m),Z7 (Gv.PM.cap m),Z7 (Gv.PM.visits m)])),some (.inr (.inl (159,Row.mk cellTm Z1 (cM (Gv.PM.vs m) (Gv.PM.gens m) (Gv.PM.live m))))),some (.inr (.inl (3,Row.mk [Z7 0] Z6 [Col.mk (Gv.PM.free m) [] []]))),some (.inl (90,[Z7 i,Z7 g])),some (.inl (119,Z5)),some (.inl (119,Z5))]))) ?_ (by kernel_rfl)
  intro Z7 Z1 Z2 Z3 Z4 Z5 Z6;subst Z6 Z5 Z4 Z3 Z2 Z1 Z7;subst hG;simp only[hasC_eq,Nat.zero_add];have hgb:=Gv.gens_bound (i:=i.toNat) hv.gen;have hhl:=hv.hld;have hfr:=hv.frees;refine⟨fun h=>?_,fun h=>⟨⟨vis_ok hv⟩,⟨?_⟩⟩⟩
  ·have hlt:i.toNat<m.vs.length:=by have:=has_at h;omega
   have g3:m.gens.getD i.toNat 0<4294967295:=by omega
   have e1:Gv.look zd m ⟨i,g⟩=m.vs.getD i.toNat zd:=by unfold Gv.look;rw[if_pos h]
   have e2:Gv.drop zd m ⟨i,g⟩={ Gv.seen m with vs:=m.vs.set i.toNat zd,live:=m.live.set i.toNat false,held:=m.held-1,free:=m.free++[i] }:=by unfold Gv.drop;rw[if_pos h,if_pos g3]
   have ec:cut m.free 0 m.free.length++cut [i] 0 1=m.free++[i]:=by rw[cut_eq rfl];rfl
   rw[ec];refine⟨⟨vis_ok hv⟩,⟨hlt⟩,⟨hlt⟩,⟨hlt⟩,⟨⟨by omega,by omega⟩⟩,⟨hlt⟩,fun _=>⟨⟨by omega,by omega,by omega,by omega⟩,⟨?_⟩⟩,fun h2=>absurd g3 (of_decide_eq_false h2)⟩
   rw[get_val m i.toNat,e1,e2,h];exact⟨[0,1,8],rfl,rfl,⟨.inl (by rw[List.length_set,List.length_append];rfl),⟨_,rfl,.inl (set_row m i.toNat zd _ _).symm⟩,⟨_,rfl,.inl (by rw[List.length_append];rfl)⟩,trivial⟩,rfl,rfl,rfl,rfl,rfl⟩
  ·have e1:Gv.look zd m ⟨i,g⟩=zd:=by unfold Gv.look;rw[if_neg (by rw[h];decide)]
   have e2:Gv.drop zd m ⟨i,g⟩=m:=by unfold Gv.drop;rw[if_neg (by rw[h];decide)]
   rw[e1,e2,h];exact⟨[0,1,2],rfl,rfl,⟨.inl rfl,⟨_,rfl,.inl rfl⟩,⟨_,rfl,.inl rfl⟩,trivial⟩,rfl,rfl,rfl,rfl,rfl⟩
 ·cases hx
theorem row_new (m:Pl) (k:Nat) (x:Nd) (g:List Int) (b:List Bool):(⟨cellTm,m.vs.length+1,cG m.vs k x g b⟩:Row)=⟨cellTm,((m.vs++[zd]).set k x).length,cM ((m.vs++[zd]).set k x) g b⟩:=by
 unfold cG cM;simp only[List.map_set,List.map_append,List.length_set,List.length_append,List.map_cons,List.map_nil,List.length_cons,List.length_nil]
 rfl
theorem put_full {m:Pl} (h0:m.held=m.cap) (x:Nd):Gv.put zd m x=m/\Gv.putR zd m=⟨0,0⟩:=by
 unfold Gv.put Gv.putR;rw[if_pos h0,if_pos h0];exact⟨rfl,rfl⟩
theorem put_grow {m:Pl} (h0:¬ m.held=m.cap) (hf:m.free.length=0) (x:Nd):Gv.put zd m x=⟨(m.vs++[zd]).set m.vs.length x,(m.gens++[0]).set m.vs.length ((m.gens++[0]).getD m.vs.length 0+1),(m.live++[false]).set m.vs.length true,m.free,m.held+1,m.cap,m.visits⟩/\Gv.putR zd m=⟨m.vs.length,(m.gens++[0]).getD m.vs.length 0+1⟩:=by
 have en:Gv.nextIdx m=m.vs.length:=by rw[Gv.nextIdx,if_pos hf]
 unfold Gv.put Gv.putR Gv.putG Gv.nextPM;rw[if_neg h0,if_neg h0];simp only[if_pos hf,en,Int.toNat_natCast]
 constructor<;>first|rfl|trivial
theorem put_free {m:Pl} (h0:¬ m.held=m.cap) (hf:¬ m.free.length=0) (x:Nd):Gv.put zd m x=⟨m.vs.set (m.free.getD (m.free.length-1) 0).toNat x,m.gens.set (m.free.getD (m.free.length-1) 0).toNat (m.gens.getD (m.free.getD (m.free.length-1) 0).toNat 0+1),m.live.set (m.free.getD (m.free.length-1) 0).toNat true,m.free.take (m.free.length-1),m.held+1,m.cap,m.visits⟩/\Gv.putR zd m=⟨m.free.getD (m.free.length-1) 0,m.gens.getD (m.free.getD (m.free.length-1) 0).toNat 0+1⟩:=by
 have en:Gv.nextIdx m=m.free.getD (m.free.length-1) 0:=by rw[Gv.nextIdx,if_neg hf]
 unfold Gv.put Gv.putR Gv.putG Gv.nextPM;rw[if_neg h0,if_neg h0];simp only[if_neg hf,en]
 constructor<;>first|rfl|trivial
structure Bds (m:Pl):Prop where
 gens:m.gens.length=m.vs.length
 cells:m.vs.length<1000000
 frees:m.free.length<1000000
 held:-1000000≤m.held/\m.held<1000000
 gen:∀ i,0≤m.gens.getD i 0/\m.gens.getD i 0≤100000
 last:¬ m.free.length=0->0≤m.free.getD (m.free.length-1) 0/\m.free.getD (m.free.length-1) 0<m.vs.length
theorem bds {m:Pl} (hv:PP m):Bds m:=by
 have v1:=hv.gens;have v3:=hv.cells;have v4:=hv.frees;have v5:=hv.hld;refine⟨v1,by omega,by omega,by omega,fun i=>?_,fun h=>?_⟩
 ·have:=Gv.gens_bound (i:=i) hv.gen;omega
 ·have:=hv.inn _ (getD_mem (d:=0) (l:=m.free) (i:=m.free.length-1) (by omega))
  exact⟨this.1,this.2.1⟩
theorem get_same (l:List Int) (k:Nat) (x:Int) (h:k<l.length):(l.set k x).getD k 0=x:=by
 rw[getD_set,if_pos ⟨rfl,h⟩]
def putP:Prim Rs:=fun args hh=>match args,hh with
 |[.pointer (some ⟨0,0,none⟩),.agg ⟨xN⟩],[some (.inr (.inr (.inr (.pool m))))]=>some ⟨xN=ndL (ndOf xN)/\PP m,.tuple #[.agg ⟨[.int .i64 (Gv.putR zd m).i,.int .i64 (Gv.putR zd m).g]⟩,.bool (!decide (m.held=m.cap))],none,[some (.inr (.inr (.inr (.pool (Gv.put zd m (ndOf xN))))))],[],[(0,0)]⟩
 |_,_=>none
theorem put_ok:ConOk D Tryz.prog 73 (con1 putP):=by
 refine con1_ok (res_prim (L:=L) (D0:=NoR) (fn:=Tryz.f73) (root:=codeOf Tryz.f73) (by kernel_rfl) (by kernel_rfl) (by kernel_rfl) fun args hh x hx=>?_)
 unfold putP at hx;split at hx
 ·rename_i xN m;injection hx with hx
  subst hx;refine q4 fun _ hv=>?_
  obtain⟨hq,hv⟩:=hv;generalize ndOf xN=x at *;subst hq
  generalize hG:EndsU (R:=Rs) (R0:=Empty) _ _ _=G;refine rx_ok (T:=TA) TA_ok mixed 200 ?_;refine as_text (q:=let Z11:=Value.int IntKind.i64;let Z1:=(Gv.PM.vs m);let Z2:=(List.length Z1);let Z3:=(Gv.PM.free m);let Z4:=(cM Z1 (Gv.PM.gens m) (Gv.PM.live m));let Z5:=(List.getD (Gv.PM.gens m++[(0:Int)]) (0+Int.toNat (↑Z2:Int)) (0:Int)+(1:Int));let Z6:=(List.set (Gv.PM.gens m++[(0:Int)]) (0+Int.toNat (↑Z2:Int)) Z5);let Z7:=(List.length Z3-1);let Z8:=(List.getD Z3 Z7 (0:Int));let Z9:=(List.getD (Gv.PM.gens m) (0+Int.toNat Z8) (0:Int)+(1:Int));let Z10:=(List.getD (List.set (Gv.PM.gens m) (0+Int.toNat Z8) Z9) (0+Int.toNat Z8) (0:Int));((Gv.PM.held m==Gv.PM.cap m)=true->Post (G (Value.tuple (Array.mk [Value.agg (Array.mk [Z11 0,Z11 0]),Value.bool false])) [some (.inl (156,[Value.slice (some (Addr.mk 1 0 (some 32000))) Z2 0,Value.slice (some (Addr.mk 2 0 (some 1000))) (List.length Z3) 0,Z11 (Gv.PM.held m),Z11 (Gv.PM.cap m),Z11 (Gv.PM.visits m)])),some (.inr (.inl (159,Row.mk cellTm Z2 Z4))),some (.inr (.inl (3,Row.mk [Z11 0] (List.length Z3) [Col.mk Z3 [] []]))),some (.inl (119,(ndL x))),some (.inl (90,[Z11 0,Z11 0]))]))/\((Gv.PM.held m==Gv.PM.cap m)=false->(decide (List.length Z3=0)=true->Vc (List.length Z3=0/\List.length Z3=List.length Z3/\0=0/\0=0/\cellTm=cellTm/\List.length Z1=List.length Z1/\List.length Z1<1000000/\ColsL Z2 Z4)/\Vc ((0:Int)≤(↑Z2:Int)/\(↑Z2:Int)<(↑(List.length Z1+1):Int)/\0+(List.length Z1+1)≤List.length Z1+1)/\Vc (0+Int.toNat (↑Z2:Int)<List.length Z1+1)/\Vc (0+Int.toNat (↑Z2:Int)<List.length Z1+1)/\Vc (0+Int.toNat (↑Z2:Int)<List.length Z1+1)/\Vc (fits Z5)/\Vc (0+Int.toNat (↑Z2:Int)<List.length Z1+1)/\Vc (fits (Gv.PM.held m+(1:Int)))/\Vc (0+Int.toNat (↑Z2:Int)<List.length Z1+1)/\Post (G (Value.tuple (Array.mk [Value.agg (Array.mk [Z11 (↑Z2:Int),Z11 (List.getD Z6 (0+Int.toNat (↑Z2:Int)) (0:Int))]),Value.bool true])) [some (.inl (156,[Value.slice (some (Addr.mk 5 0 (some 32000))) (List.length Z1+1) 0,Value.slice (some (Addr.mk 2 0 (some 1000))) (List.length Z3) 0,Z11 (Gv.PM.held m+(1:Int)),Z11 (Gv.PM.cap m),Z11 (Gv.PM.visits m)])),none,some (.inr (.inl (3,Row.mk [Z11 0] (List.length Z3) [Col.mk Z3 [] []]))),some (.inl (119,(ndL x))),some (.inl (90,[Z11 (↑Z2:Int),Z11 (List.getD Z6 (0+Int.toNat (↑Z2:Int)) (0:Int))])),some (.inr (.inl (159,Row.mk cellTm (List.length Z1+1) (cG Z1 (0+Int.toNat (↑Z2:Int)) x Z6 (List.set (Gv.PM.live m++[false]) (0+Int.toNat (↑Z2:Int)) true)))))]))/\(decide (List.length Z3=0)=false->Vc (List.length Z3≠0/\List.length Z3=List.length Z3/\List.length Z3=List.length Z3/\0=0/\0=0/\List.length Z3<1000000/\cellTm=cellTm/\List.length Z1=List.length Z1/\List.length Z1<1000000/\ColsL Z2 Z4)/\Vc ((0:Int)≤List.getD Z3 Z7 (0:Int)/\List.getD Z3 Z7 (0:Int)<(↑Z2:Int)/\0+List.length Z1≤List.length Z1)/\Vc (0+Int.toNat Z8<List.length Z1)/\Vc (0+Int.toNat Z8<List.length Z1)/\Vc (0+Int.toNat Z8<List.length Z1)/\Vc (fits Z9)/\Vc (0+Int.toNat Z8<List.length Z1)/\Vc (fits (Gv.PM.held m+(1:Int)))/\Vc (0+Int.toNat Z8<List.length Z1)/\Post (G (Value.tuple (Array.mk [Value.agg (Array.mk [Z11 Z8,Z11 Z10]),Value.bool true])) [some (.inl (156,[Value.slice (some (Addr.mk 1 0 (some 32000))) Z2 0,Value.slice (some (Addr.mk 2 0 (some 1000))) Z7 0,Z11 (Gv.PM.held m+(1:Int)),Z11 (Gv.PM.cap m),Z11 (Gv.PM.visits m)])),some (.inr (.inl (159,Row.mk cellTm Z2 (cS Z1 (0+Int.toNat Z8) x (List.set (Gv.PM.gens m) (0+Int.toNat Z8) Z9) (List.set (Gv.PM.live m) (0+Int.toNat Z8) true))))),some (.inr (.inl (3,Row.mk [Z11 0] Z7 [Col.mk (List.take Z7 Z3) [] []]))),some (.inl (119,(ndL x))),some (.inl (90,[Z11 Z8,Z11 Z10]))])))) ?_ (by kernel_rfl)
  intro Z11 Z1 Z2 Z3 Z4 Z5 Z6 Z7 Z8 Z9 Z10;subst Z10 Z9 Z8 Z7 Z6 Z5 Z4 Z3 Z2 Z1 Z11;subst hG;simp only[Nat.zero_add,Int.toNat_natCast];have hb:=bds hv;refine⟨fun h=>?_,fun h=>⟨fun hf=>?_,fun hf=>?_⟩⟩
  ·have h0:m.held=m.cap:=eq_of_beq h;rw[(put_full h0 x).1,(put_full h0 x).2,decide_eq_true h0];exact⟨⟨[0,1,2],rfl,rfl,⟨.inl rfl,⟨_,rfl,.inl rfl⟩,⟨_,rfl,.inl rfl⟩,trivial⟩,rfl,rfl,rfl,rfl,rfl⟩⟩
  ·have h0:¬ m.held=m.cap:=fun c=>by rw[c,beq_self_eq_true] at h;cases h
   have h1:m.free.length=0:=of_decide_eq_true hf;have hk:m.vs.length<(m.gens++[0]).length:=by rw[List.length_append,hb.gens];exact Nat.lt_succ_self _
   have e1:(m.gens++[0]).getD m.vs.length 0=0:=by rw[getD_append1,if_pos hb.gens.symm]
   rw[(put_grow h0 h1 x).1,(put_grow h0 h1 x).2,decide_eq_false h0,get_same _ _ _ hk];refine⟨⟨h1,trivial,trivial,trivial,trivial,trivial,hb.cells,cols_of hv⟩,⟨by omega,by omega,Nat.le_refl _⟩,⟨Nat.lt_succ_self _⟩,⟨Nat.lt_succ_self _⟩,⟨Nat.lt_succ_self _⟩,⟨by rw[e1];exact⟨by omega,by omega⟩⟩,⟨Nat.lt_succ_self _⟩,⟨by have:=hb.held;exact⟨by omega,by omega⟩⟩,⟨Nat.lt_succ_self _⟩,⟨[0,5,2],rfl,rfl,?_,rfl,rfl,rfl,rfl,rfl⟩⟩
   exact⟨.inl (by rw[List.length_set,List.length_append];rfl),⟨_,rfl,.inl (row_new m m.vs.length x _ _).symm⟩,⟨_,rfl,.inl rfl⟩,trivial⟩
  ·have h0:¬ m.held=m.cap:=fun c=>by rw[c,beq_self_eq_true] at h;cases h
   have h1:¬ m.free.length=0:=of_decide_eq_false hf;have hl:=hb.last h1;have hk:(m.free.getD (m.free.length-1) 0).toNat<m.vs.length:=by omega
   rw[(put_free h0 h1 x).1,(put_free h0 h1 x).2,decide_eq_false h0,get_same _ _ _ (by rw[hb.gens];exact hk)]
   refine⟨⟨h1,trivial,trivial,trivial,trivial,hb.frees,trivial,trivial,hb.cells,cols_of hv⟩,⟨hl.1,hl.2,Nat.le_refl _⟩,⟨hk⟩,⟨hk⟩,⟨hk⟩,⟨by have:=hb.gen (m.free.getD (m.free.length-1) 0).toNat;exact⟨by omega,by omega⟩⟩,⟨hk⟩,⟨by have:=hb.held;exact⟨by omega,by omega⟩⟩,⟨hk⟩,⟨[0,1,2],rfl,rfl,?_,rfl,rfl,rfl,rfl,rfl⟩⟩
   exact⟨.inl (by rw[List.length_set,List.length_take,Nat.min_eq_left (Nat.sub_le _ _)];rfl),⟨_,rfl,.inl (set_row m _ x _ _).symm⟩,⟨_,rfl,.inl (by rw[List.length_take,Nat.min_eq_left (Nat.sub_le _ _)])⟩,trivial⟩
 ·cases hx
end G8
namespace Rx
open Go.RowKit State
theorem rx_okQ {R:Type} {D:Res R} {P:Program} {T:Tab R} (hT:TabOk D P T) (hmx:P.follows .mixedOrders=true) {root:Code} {n0:Nat} {k:Exit->SS R->Prop} (n:Nat) {todo:List (It R)} {σ:SS R} {q:Prop} (hq:q)
  (e:rx D P T root n0 k n todo σ=q):At D P root n0 k todo σ:=rx_ok hT hmx n (by rw[e];exact hq)
end Rx
namespace Wv
open Rx
set_option maxRecDepth 100000
def nanP {R:Type}:Prim R:=fun args hh=>match args,hh with
 |[.int .i64 a],[]=>some ⟨True,.bool false,none,hh,[],[]⟩
 |_,_=>none
theorem nan_ok {R:Type} {D:Res R}:ConOk D Tryz.prog 133 (con1 nanP):=by
 refine prK Tryz.f133 fun args hh x hx=>?_
 unfold nanP at hx;split at hx
 ·rename_i a;injection hx with hx
  subst hx;refine q4 fun _ hv=>?_
  generalize hG:Rx.Ends (R:=R) _ _=G;refine rx_okQ (T:=[]) trivial mixed 200 (q:=Post (G (Value.bool (a != a)) [])) ?_ (by kernel_rfl)
  subst hG
  repeat' (first|apply And.intro|apply Vc.mk|apply fits.mk|intro h|apply Post.mk)
  all_goals (try simp only[sB] at *)
  all_goals first|contradiction|omega|exact vb1 ‹_›|exact vb2 ‹_›|exact vb3 ‹_›|exact⟨rfl,by omega⟩|exact rfl|(simp[*,-List.getD_eq_getElem?_getD];done)|skip
  rw[show(a != a)=false by simp]
  exact⟨[],rfl,rfl,trivial,rfl,rfl,rfl,rfl⟩
 ·cases hx
def TNan {R:Type}:Tab R:=[(133,liftC zN 2 (con1 nanP))]
theorem TNan_ok {R:Type} {D:Res R}:TabOk D Tryz.prog (TNan:Tab R):=⟨liftC_ok _ _ nan_ok,trivial⟩
def ccmpP {R:Type}:Prim R:=fun args hh=>match args,hh with
 |[.int .i64 a,.int .i64 b],[]=>some ⟨True,.int .i64 (c64 a b),none,hh,[],[]⟩
 |_,_=>none
theorem ccmp_ok {R:Type} {D:Res R}:ConOk D Tryz.prog 125 (con1 ccmpP):=by
 refine prK Tryz.f125 fun args hh x hx=>?_
 unfold ccmpP at hx;split at hx
 ·rename_i a b;injection hx with hx
  subst hx;refine q4 fun _ hv=>?_
  generalize hG:Rx.Ends (R:=R) _ _=G;refine rx_okQ (T:=TNan) TNan_ok mixed 200 (q:=let Z1:=Value.int IntKind.i64;Vc True/\Vc True/\(false=true->(false=true->Post (G (Z1 0) []))/\(false=false->Post (G (Z1 (-1:Int)) [])))/\(false=false->(false=true->Post (G (Z1 1) []))/\(false=false->(decide (a<b)=true->Post (G (Z1 (-1:Int)) []))/\(decide (a<b)=false->(decide (a>b)=true->Post (G (Z1 1) []))/\(decide (a>b)=false->Post (G (Z1 0) [])))))) ?_ (by kernel_rfl)
  intro Z1;subst Z1;have fin:∀ (t:Int) (hp:Hp R),t=c64 a b->G (.int .i64 t) hp:=by
   intro t hp ht;subst ht;subst hG;exact⟨⟨[],rfl,rfl,trivial,rfl,rfl,rfl,rfl⟩⟩
  clear hG
  repeat' (first|apply And.intro|apply Vc.mk|apply fits.mk|intro h|apply Post.mk)
  all_goals (try simp only[sB] at *)
  all_goals first|contradiction|omega|exact vb1 ‹_›|exact vb2 ‹_›|exact vb3 ‹_›|exact⟨rfl,by omega⟩|exact rfl|(simp[*,-List.getD_eq_getElem?_getD];done)|skip
  ·have h:a<b:=by assumption
   exact fin _ _ (by rw[c64,if_pos h])
  ·have h2:a>b:=by assumption
   exact fin _ _ (by rw[c64,if_neg (by omega),if_pos h2])
  ·exact fin _ _ (by rw[c64,if_neg (by omega),if_neg (by omega)])
 ·cases hx
def or2 (a b:Int):Int:=if a≠0 then a else b
def corP {R:Type}:Prim R:=fun args hh=>match args,hh with
 |[.slice (some ⟨0,0,some 1000⟩) n c],[some (.inr (.inr (.inl ⟨[.int .i64 0],n',[⟨[a,b],[],[]⟩]⟩)))]=>some ⟨n=2/\n'=2,.int .i64 (or2 a b),none,hh,[],[]⟩
 |_,_=>none
theorem cor_ok {R:Type} {D:Res R}:ConOk D Tryz.prog 124 (con1 corP):=by
 refine prK Tryz.f124 fun args hh x hx=>?_
 unfold corP at hx;split at hx
 ·rename_i n c n' a b;injection hx with hx
  subst hx;refine q4 fun _ hv=>?_
  obtain⟨rfl,rfl⟩:=hv;generalize hG:Rx.Ends (R:=R) _ _=G;refine rx_okQ (T:=[]) trivial mixed 200 (q:=let Z1:=Value.int IntKind.i64;At D Tryz.prog (codeOf Tryz.f124) 1 (retK Tryz.prog (Array.toList (Func.results Tryz.f124)) G) [Sum.inl [1,1,0,1,0],Sum.inr (Sum.inl 0),Sum.inl [1,1,1]] (SS.mk [some (Value.slice (some (Addr.mk 0 0 (some 1000))) 2 c),none,some (Z1 0),some (Z1 0),none,none,some (Value.slice (some (Addr.mk 0 0 (some 1000))) 2 c),some (Z1 2),some (Z1 0),none,none,none,none,none,none,none,none,none] [] [some (Sum.inr (Sum.inr (Sum.inl (Row.mk [Z1 0] 2 [Col.mk [a,b] [] []]))))])) ?_ (by kernel_rfl)
  intro Z1;subst Z1;refine loop_atM (by kernel_rfl) (ι:=Nat) (fun x=>x≤2/\(1≤x->a=0)/\(2≤x->b=0)) [2,3,6,7,8] (fun x=>[.int .i64 0,.int .i64 0,.slice (some ⟨0,0,some 1000⟩) 2 c,.int .i64 2,.int .i64 x]) (fun x=>[some (.inr (.inr (.inl ⟨[.int .i64 0],2,[⟨[a,b],[],[]⟩]⟩)))]) (fun x=>2-x) 18 (fun x hx=>⟨rfl,rfl,by simp⟩) ⟨0,⟨Nat.zero_le _,fun h=>by omega,fun h=>by omega⟩,⟨[0],rfl,⟨rfl,trivial⟩,rfl,rfl,rfl,rfl⟩⟩ fun x hx=>?_
  refine rx_okQ (T:=[]) trivial mixed 200 (q:=let Z2:=Value.int IntKind.i64;let Z1:=(List.getD [a,b] (0+Int.toNat (↑x:Int)) (0:Int) != (0:Int));(decide ((↑x:Int)<(2:Int))=true->Vc ((0:Int)≤(↑x:Int)/\(↑x:Int)<(2:Int)/\2≤2)/\Vc (0+Int.toNat (↑x:Int)<2)/\(Z1=true->Post (G (Z2 (List.getD [a,b] (0+Int.toNat (↑x:Int)) (0:Int))) [some (Sum.inr (Sum.inr (Sum.inl (Row.mk [Z2 0] 2 [Col.mk [a,b] [] []]))))]))/\(Z1=false->Vc (fits ((↑x:Int)+(1:Int)))/\Post (∃ j,(j≤2/\(1≤j->a=(0:Int))/\(2≤j->b=(0:Int)))/\2-j<2-x/\FitsM R 1 18 [2,3,6,7,8] [Z2 0,Z2 0,Value.slice (some (Addr.mk 0 0 (some 1000))) 2 c,Z2 2,Z2 (↑j:Int)] [some (Sum.inr (Sum.inr (Sum.inl (Row.mk [Z2 0] 2 [Col.mk [a,b] [] []]))))] [some (Z2 0),some (Z2 0),some (Value.slice (some (Addr.mk 0 0 (some 1000))) 2 c),some (Z2 2),some (Z2 ((↑x:Int)+(1:Int)))] [some (Sum.inr (Sum.inr (Sum.inl (Row.mk [Z2 0] 2 [Col.mk [a,b] [] []]))))] 18)))/\(decide ((↑x:Int)<(2:Int))=false->Post (G (Z2 0) [some (Sum.inr (Sum.inr (Sum.inl (Row.mk [Z2 0] 2 [Col.mk [a,b] [] []]))))]))) ?_ (by kernel_rfl)
  intro Z2 Z1;subst Z1 Z2;obtain⟨h1,h2,h3⟩:=hx;have fin:∀ (t:Int) (rest:Hp R),t=or2 a b->G (.int .i64 t) ([some (.inr (.inr (.inl ⟨[.int .i64 0],2,[⟨[a,b],[],[]⟩]⟩)))]++rest):=by
   intro t hp ht;subst ht;subst hG;exact⟨⟨[0],rfl,rfl,⟨rfl,trivial⟩,rfl,rfl,rfl,rfl⟩⟩
  clear hG;rcases(show x=0∨x=1∨x=2 by omega) with e|e|e<;>subst e
  ·have g0:[a,b].getD (0+((0:Nat):Int).toNat) 0=a:=rfl;rw[g0]
   repeat' (first|apply And.intro|apply Vc.mk|apply fits.mk|intro h|apply Post.mk)
   all_goals (try simp only[sB] at *)
   all_goals first|contradiction|omega|exact vb1 ‹_›|exact vb2 ‹_›|exact vb3 ‹_›|exact⟨rfl,by omega⟩|exact rfl|(simp[*,-List.getD_eq_getElem?_getD];done)|skip
   ·have h:a≠0:=by assumption
    exact fin _ [] (by rw[or2,if_pos h])
   ·have h:a=0:=by assumption
    exact⟨1,⟨by omega,fun _=>h,fun h=>by omega⟩,by omega,⟨[0],rfl,⟨rfl,trivial⟩,rfl,rfl,rfl,rfl⟩⟩
  ·have g0:[a,b].getD (0+((1:Nat):Int).toNat) 0=b:=rfl;rw[g0];have h0:=h2 (Nat.le_refl _)
   repeat' (first|apply And.intro|apply Vc.mk|apply fits.mk|intro h|apply Post.mk)
   all_goals (try simp only[sB] at *)
   all_goals first|contradiction|omega|exact vb1 ‹_›|exact vb2 ‹_›|exact vb3 ‹_›|exact⟨rfl,by omega⟩|exact rfl|(simp[*,-List.getD_eq_getElem?_getD];done)|skip
   ·exact fin _ [] (by rw[or2,if_neg (by omega)])
   ·have h:b=0:=by assumption
    exact⟨2,⟨by omega,fun _=>h0,fun _=>h⟩,by omega,⟨[0],rfl,⟨rfl,trivial⟩,rfl,rfl,rfl,rfl⟩⟩
  ·have h0:=h2 (by omega)
   have h1:=h3 (by omega)
   repeat' (first|apply And.intro|apply Vc.mk|apply fits.mk|intro h|apply Post.mk)
   all_goals (try simp only[sB] at *)
   all_goals first|contradiction|omega|exact vb1 ‹_›|exact vb2 ‹_›|exact vb3 ‹_›|exact⟨rfl,by omega⟩|exact rfl|(simp[*,-List.getD_eq_getElem?_getD];done)|skip
   all_goals first|(exfalso;omega)|skip
   exact fin _ [] (by rw[or2,if_neg (by omega),h1])
 ·cases hx
def z0:Nat->Bool:=fun j=>Nat.beq j 0
def TCm {R:Type}:Tab R:=[(125,liftC zN 2 (con1 ccmpP)),(124,liftV z0 2 (con1 corP))]
theorem TCm_ok {R:Type} {D:Res R}:TabOk D Tryz.prog (TCm:Tab R):=⟨liftC_ok _ _ ccmp_ok,liftV_ok _ _ cor_ok,trivial⟩
theorem icmp_or (a b c d:Int):or2 (c64 a c) (c64 b d)=icmp ⟨a,b⟩ ⟨c,d⟩:=by
 unfold or2 c64 icmp;simp only
 repeat' split
 all_goals omega
def icmP {R:Type}:Prim R:=fun args hh=>match args,hh with
 |[.agg ⟨[.int .i64 a,.int .i64 b]⟩,.agg ⟨[.int .i64 c,.int .i64 d]⟩],[]=>some ⟨True,.int .i64 (icmp ⟨a,b⟩ ⟨c,d⟩),none,hh,[],[]⟩
 |_,_=>none
theorem icm_ok {R:Type} {D:Res R}:ConOk D Tryz.prog 108 (con1 icmP):=by
 refine prK Tryz.f108 fun args hh x hx=>?_
 unfold icmP at hx;split at hx
 ·rename_i a b c d;injection hx with hx
  subst hx;refine q4 fun _ hv=>?_
  generalize hG:Rx.Ends (R:=R) _ _=G;refine rx_okQ (T:=TCm) TCm_ok mixed 200 (q:=let Z1:=Value.int IntKind.i64;Vc True/\Vc True/\Vc ((2≤2/\True)/\2=2/\2=2)/\Post (G (Z1 (or2 (c64 a c) (c64 b d))) [some (Sum.inl (31,[Z1 a,Z1 b])),some (Sum.inl (31,[Z1 c,Z1 d])),some (Sum.inr (Sum.inl (3,Row.mk [Z1 0] 2 [Col.mk [c64 a c,c64 b d] [] []])))])) ?_ (by kernel_rfl)
  intro Z1;subst Z1;subst hG;simp only[← icmp_or]
  repeat' (first|apply And.intro|apply Vc.mk|apply fits.mk|intro h|apply Post.mk)
  all_goals (try simp only[sB] at *)
  all_goals first|contradiction|omega|exact vb1 ‹_›|exact vb2 ‹_›|exact vb3 ‹_›|exact⟨rfl,by omega⟩|exact rfl|(simp[*,-List.getD_eq_getElem?_getD];done)|skip
  exact⟨[],rfl,rfl,trivial,rfl,rfl,rfl,rfl⟩
 ·cases hx
def TCc {R:Type}:Tab R:=[(125,liftC zN 2 (con1 ccmpP))]
theorem TCc_ok {R:Type} {D:Res R}:TabOk D Tryz.prog (TCc:Tab R):=⟨liftC_ok _ _ ccmp_ok,trivial⟩
def TPl {R:Type}:Tab R:=[(155,liftC zN 2 (con1 Ti.plusP))]
theorem TPl_ok {R:Type} {D:Res R}:TabOk D Tryz.prog TPl:=⟨liftC_ok _ _ Ti.plus_ok,trivial⟩
def of1P {R:Type}:Prim R:=fun args hh=>match args,hh with
 |[.slice (some ⟨0,0,some 1000⟩) n c],[some (.inr (.inr (.inl ⟨[.int .i64 0],n',[⟨[w],[],[]⟩]⟩)))]=>some ⟨n=1/\n'=1,.agg ⟨[.int .i64 1,.int .i64 w,.int .i64 w]⟩,none,hh,[],[]⟩
 |_,_=>none
theorem of1_ok {R:Type} {D:Res R}:ConOk D Tryz.prog 154 (con1 of1P):=by
 refine prK Tryz.f154 fun args hh x hx=>?_
 unfold of1P at hx;split at hx
 ·rename_i n c n' w;injection hx with hx
  subst hx;refine q4 fun _ hv=>?_
  obtain⟨rfl,rfl⟩:=hv;generalize hG:Rx.Ends (R:=R) _ _=G;refine rx_okQ (T:=TPl) TPl_ok mixed 200 (q:=let Z1:=Value.int IntKind.i64;At D Tryz.prog (codeOf Tryz.f154) 1 (retK Tryz.prog (Array.toList (Func.results Tryz.f154)) G) [Sum.inl [1,1,0,1,0],Sum.inr (Sum.inl 0),Sum.inl [1,1,1]] (SS.mk [some (Value.slice (some (Addr.mk 0 0 (some 1000))) 1 c),none,some (Value.pointer (some (Addr.mk 1 0 none))),some (Value.pointer (some (Addr.mk 2 0 none))),none,none,some (Value.slice (some (Addr.mk 0 0 (some 1000))) 1 c),some (Z1 1),some (Z1 0),none,none,none,none,none,none,none,none,none,none] [] [some (Sum.inr (Sum.inr (Sum.inl (Row.mk [Z1 0] 1 [Col.mk [w] [] []])))),some (Sum.inl (51,[Z1 0,Z1 0,Z1 0])),some (Sum.inl (51,[Z1 0,Z1 0,Z1 0]))])) ?_ (by kernel_rfl)
  intro Z1;subst Z1;refine loop_atM (by kernel_rfl) (ι:=Nat×Ti.Td) (fun x=>x.1≤1/\x.2=if x.1=0 then⟨0,0,0⟩ else⟨1,w,w⟩) [2,3,6,7,8] (fun x=>[.pointer (some ⟨1,0,none⟩),.pointer (some ⟨2,0,none⟩),.slice (some ⟨0,0,some 1000⟩) 1 c,.int .i64 1,.int .i64 x.1]) (fun x=>[some (.inr (.inr (.inl ⟨[.int .i64 0],1,[⟨[w],[],[]⟩]⟩))),some (.inl (51,[.int .i64 0,.int .i64 0,.int .i64 0])),some (.inl (51,[.int .i64 x.2.n,.int .i64 x.2.s,.int .i64 x.2.l]))]) (fun x=>1-x.1) 19 (fun x hx=>⟨rfl,rfl,by simp⟩) ⟨(0,⟨0,0,0⟩),⟨Nat.zero_le _,rfl⟩,⟨[0,1,2],rfl,⟨rfl,.inl rfl,.inl rfl,trivial⟩,rfl,rfl,rfl,rfl⟩⟩ fun x hx=>?_
  refine rx_okQ (T:=TPl) TPl_ok mixed 200 (q:=let Z3:=Value.int IntKind.i64;let Z1:=(↑(Prod.fst x):Int);let Z2:=(Ti.Td.plus (Prod.snd x) (Ti.Td.mk (1:Int) (List.getD [w] (0+Int.toNat Z1) (0:Int)) (List.getD [w] (0+Int.toNat Z1) (0:Int))));(decide (Z1<(1:Int))=true->Vc ((0:Int)≤Z1/\Z1<(1:Int)/\1≤1)/\Vc (0+Int.toNat Z1<1)/\Vc True/\Vc (fits (Z1+(1:Int)))/\Post (∃ j,(Prod.fst j≤1/\Prod.snd j=if Prod.fst j=0 then Ti.Td.mk (0:Int) (0:Int) (0:Int) else Ti.Td.mk (1:Int) w w)/\1-Prod.fst j<1-Prod.fst x/\FitsM R 1 19 [2,3,6,7,8] [Value.pointer (some (Addr.mk 1 0 none)),Value.pointer (some (Addr.mk 2 0 none)),Value.slice (some (Addr.mk 0 0 (some 1000))) 1 c,Z3 1,Z3 (↑(Prod.fst j):Int)] [some (Sum.inr (Sum.inr (Sum.inl (Row.mk [Z3 0] 1 [Col.mk [w] [] []])))),some (Sum.inl ((51:TypeId),[Z3 0,Z3 0,Z3 0])),some (Sum.inl ((51:TypeId),[Z3 (Ti.Td.n (Prod.snd j)),Z3 (Ti.Td.s (Prod.snd j)),Z3 (Ti.Td.l (Prod.snd j))]))] [some (Value.pointer (some (Addr.mk 1 0 none))),some (Value.pointer (some (Addr.mk 2 0 none))),some (Value.slice (some (Addr.mk 0 0 (some 1000))) 1 c),some (Z3 1),some (Z3 (Z1+(1:Int)))] [some (Sum.inr (Sum.inr (Sum.inl (Row.mk [Z3 0] 1 [Col.mk [w] [] []])))),some (Sum.inl (51,[Z3 0,Z3 0,Z3 0])),some (Sum.inl (51,[Z3 (Ti.Td.n Z2),Z3 (Ti.Td.s Z2),Z3 (Ti.Td.l Z2)]))] 19))/\(decide (Z1<(1:Int))=false->Post (G (Value.agg (Array.mk [Z3 (Ti.Td.n (Prod.snd x)),Z3 (Ti.Td.s (Prod.snd x)),Z3 (Ti.Td.l (Prod.snd x))])) [some (Sum.inr (Sum.inr (Sum.inl (Row.mk [Z3 0] 1 [Col.mk [w] [] []])))),some (Sum.inl (51,[Z3 (Ti.Td.n (Prod.snd x)),Z3 (Ti.Td.s (Prod.snd x)),Z3 (Ti.Td.l (Prod.snd x))])),some (Sum.inl (51,[Z3 (Ti.Td.n (Prod.snd x)),Z3 (Ti.Td.s (Prod.snd x)),Z3 (Ti.Td.l (Prod.snd x))]))]))) ?_ (by kernel_rfl)
  intro Z3 Z1 Z2;subst Z2 Z1 Z3;obtain⟨i,t⟩:=x;obtain⟨h1,h2⟩:=hx;rcases(show i=0∨i=1 by omega) with hi|hi
  ·have ht:t=⟨0,0,0⟩:=h2.trans (if_pos hi);rw[hi,ht];refine⟨fun h=>⟨⟨by omega,by omega,Nat.le_refl _⟩,⟨Nat.zero_lt_one⟩,⟨trivial⟩,⟨⟨by omega,by omega⟩⟩,⟨(1,⟨1,w,w⟩),⟨Nat.le_refl _,rfl⟩,Nat.zero_lt_one,⟨[0,1,2],rfl,⟨rfl,.inl rfl,.inl rfl,trivial⟩,rfl,rfl,rfl,rfl⟩⟩⟩,fun h=>by simp at h⟩
  ·have ht:t=⟨1,w,w⟩:=h2.trans (if_neg (show ¬ i=0 by omega))
   rw[hi,ht];refine⟨fun h=>by simp at h,fun h=>⟨?_⟩⟩
   subst hG;exact⟨⟨[0],rfl,rfl,⟨rfl,trivial⟩,rfl,rfl,rfl,rfl⟩⟩
 ·cases hx
def TOf {R:Type}:Tab R:=[(154,liftV z0 2 (con1 of1P))]
theorem TOf_ok {R:Type} {D:Res R}:TabOk D Tryz.prog (TOf:Tab R):=⟨liftV_ok _ _ of1_ok,trivial⟩
def insdP {R:Type}:Prim R:=fun args hh=>match args,hh with
 |[.agg ⟨[.int .i64 a,.int .i64 b]⟩,.bool hr],[]=>some ⟨True,.agg ⟨[.int .i64 (insS ⟨a,b⟩ hr).c.n,.int .i64 (insS ⟨a,b⟩ hr).c.s,.int .i64 (insS ⟨a,b⟩ hr).c.l,.int .i64 (insS ⟨a,b⟩ hr).w.n,.int .i64 (insS ⟨a,b⟩ hr).w.s,.int .i64 (insS ⟨a,b⟩ hr).w.l,.int .i64 (insS ⟨a,b⟩ hr).d,.int .i64 (insS ⟨a,b⟩ hr).f,.int .i64 (insS ⟨a,b⟩ hr).m.k,.int .i64 (insS ⟨a,b⟩ hr).m.i,.bool (insS ⟨a,b⟩ hr).gf,.int .i64 (insS ⟨a,b⟩ hr).g.k,.int .i64 (insS ⟨a,b⟩ hr).g.i,.bool (insS ⟨a,b⟩ hr).lf,.int .i64 (insS ⟨a,b⟩ hr).l.k,.int .i64 (insS ⟨a,b⟩ hr).l.i]⟩,none,hh,[],[]⟩
 |_,_=>none
theorem insd_ok {R:Type} {D:Res R}:ConOk D Tryz.prog 152 (con1 insdP):=by
 refine prK Tryz.f152 fun args hh x hx=>?_
 unfold insdP at hx;split at hx
 ·rename_i a b hr;injection hx with hx
  subst hx;refine q4 fun _ hv=>?_
  generalize hG:Rx.Ends (R:=R) _ _=G;refine rx_okQ (T:=TOf) TOf_ok mixed 200 (q:=let Z1:=Value.int IntKind.i64;(hr=true->Vc ((1≤1/\True)/\1=1/\1=1)/\Vc ((1≤1/\True)/\1=1/\1=1)/\Post (G (Value.agg (Array.mk [Z1 1,Z1 1,Z1 1,Z1 1,Z1 0,Z1 0,Z1 0,Z1 0,Z1 0,Z1 0,Value.bool false,Z1 0,Z1 0,Value.bool true,Z1 a,Z1 b])) [some (Sum.inl (31,[Z1 a,Z1 b])),some (Sum.inl (53,[Z1 1,Z1 1,Z1 1,Z1 1,Z1 0,Z1 0,Z1 0,Z1 0,Z1 0,Z1 0,Value.bool false,Z1 0,Z1 0,Value.bool true,Z1 a,Z1 b])),some (Sum.inl (47,[Value.bool true,Z1 a,Z1 b])),some (Sum.inr (Sum.inl (3,Row.mk [Z1 0] 1 [Col.mk [(1:Int)] [] []]))),some (Sum.inr (Sum.inl (3,Row.mk [Z1 0] 1 [Col.mk [(0:Int)] [] []])))]))/\(hr=false->Vc ((1≤1/\True)/\1=1/\1=1)/\Vc ((1≤1/\True)/\1=1/\1=1)/\Post (G (Value.agg (Array.mk [Z1 1,Z1 1,Z1 1,Z1 1,Z1 1,Z1 1,Z1 0,Z1 0,Z1 0,Z1 0,Value.bool true,Z1 a,Z1 b,Value.bool false,Z1 0,Z1 0])) [some (Sum.inl (31,[Z1 a,Z1 b])),some (Sum.inl (53,[Z1 1,Z1 1,Z1 1,Z1 1,Z1 1,Z1 1,Z1 0,Z1 0,Z1 0,Z1 0,Value.bool true,Z1 a,Z1 b,Value.bool false,Z1 0,Z1 0])),some (Sum.inl (47,[Value.bool true,Z1 a,Z1 b])),some (Sum.inr (Sum.inl (3,Row.mk [Z1 0] 1 [Col.mk [(1:Int)] [] []]))),some (Sum.inr (Sum.inl (3,Row.mk [Z1 0] 1 [Col.mk [(1:Int)] [] []])))]))) ?_ (by kernel_rfl)
  intro Z1;subst Z1;have fin:∀ (z:Sw) (hp:Hp R),z=insS ⟨a,b⟩ hr->G (.agg ⟨[.int .i64 z.c.n,.int .i64 z.c.s,.int .i64 z.c.l,.int .i64 z.w.n,.int .i64 z.w.s,.int .i64 z.w.l,.int .i64 z.d,.int .i64 z.f,.int .i64 z.m.k,.int .i64 z.m.i,.bool z.gf,.int .i64 z.g.k,.int .i64 z.g.i,.bool z.lf,.int .i64 z.l.k,.int .i64 z.l.i]⟩) hp:=by
   intro z hp ht;subst ht;subst hG;exact⟨⟨[],rfl,rfl,trivial,rfl,rfl,rfl,rfl⟩⟩
  clear hG
  repeat' (first|apply And.intro|apply Vc.mk|apply fits.mk|intro h|apply Post.mk)
  all_goals (try simp only[sB] at *)
  all_goals first|contradiction|omega|exact vb1 ‹_›|exact vb2 ‹_›|exact vb3 ‹_›|exact⟨rfl,by omega⟩|exact rfl|(simp[*,-List.getD_eq_getElem?_getD];done)|skip
  ·have h:hr=true:=by assumption
   exact fin ⟨⟨1,1,1⟩,⟨1,0,0⟩,0,0,⟨0,0⟩,false,⟨0,0⟩,true,⟨a,b⟩⟩ _ (by rw[insS,if_pos h])
  ·have h:hr=false:=by assumption
   exact fin ⟨⟨1,1,1⟩,⟨1,1,1⟩,0,0,⟨0,0⟩,true,⟨a,b⟩,false,⟨0,0⟩⟩ _ (by rw[insS,if_neg (by rw[h];decide)])
 ·cases hx
def deldP {R:Type}:Prim R:=fun args hh=>match args,hh with
 |[.agg ⟨[.bool a,.int .i64 b,.int .i64 c]⟩],[]=>some ⟨True,.agg ⟨[.int .i64 (delS a ⟨b,c⟩).c.n,.int .i64 (delS a ⟨b,c⟩).c.s,.int .i64 (delS a ⟨b,c⟩).c.l,.int .i64 (delS a ⟨b,c⟩).w.n,.int .i64 (delS a ⟨b,c⟩).w.s,.int .i64 (delS a ⟨b,c⟩).w.l,.int .i64 (delS a ⟨b,c⟩).d,.int .i64 (delS a ⟨b,c⟩).f,.int .i64 (delS a ⟨b,c⟩).m.k,.int .i64 (delS a ⟨b,c⟩).m.i,.bool (delS a ⟨b,c⟩).gf,.int .i64 (delS a ⟨b,c⟩).g.k,.int .i64 (delS a ⟨b,c⟩).g.i,.bool (delS a ⟨b,c⟩).lf,.int .i64 (delS a ⟨b,c⟩).l.k,.int .i64 (delS a ⟨b,c⟩).l.i]⟩,none,hh,[],[]⟩
 |_,_=>none
theorem deld_ok {R:Type} {D:Res R}:ConOk D Tryz.prog 153 (con1 deldP):=by
 refine prK Tryz.f153 fun args hh x hx=>?_
 unfold deldP at hx;split at hx
 ·rename_i a b c;injection hx with hx
  subst hx;refine q4 fun _ hv=>?_
  generalize hG:Rx.Ends (R:=R) _ _=G;refine rx_okQ (T:=TOf) TOf_ok mixed 200 (q:=let Z1:=Value.int IntKind.i64;Vc ((1≤1/\True)/\1=1/\1=1)/\Vc ((1≤1/\True)/\1=1/\1=1)/\(a=true->Post (G (Value.agg (Array.mk [Z1 1,Z1 (-1:Int),Z1 (-1:Int),Z1 1,Z1 (-1:Int),Z1 (-1:Int),Z1 1,Z1 0,Z1 b,Z1 c,Value.bool false,Z1 0,Z1 0,Value.bool false,Z1 0,Z1 0])) [some (Sum.inl (47,[Value.bool a,Z1 b,Z1 c])),some (Sum.inl (53,[Z1 1,Z1 (-1:Int),Z1 (-1:Int),Z1 1,Z1 (-1:Int),Z1 (-1:Int),Z1 1,Z1 0,Z1 b,Z1 c,Value.bool false,Z1 0,Z1 0,Value.bool false,Z1 0,Z1 0])),some (Sum.inr (Sum.inl (3,Row.mk [Z1 0] 1 [Col.mk [(-1:Int)] [] []]))),some (Sum.inr (Sum.inl (3,Row.mk [Z1 0] 1 [Col.mk [(-1:Int)] [] []]))),some (Sum.inl (53,[Z1 1,Z1 (-1:Int),Z1 (-1:Int),Z1 1,Z1 (-1:Int),Z1 (-1:Int),Z1 1,Z1 0,Z1 b,Z1 c,Value.bool false,Z1 0,Z1 0,Value.bool false,Z1 0,Z1 0]))]))/\(a=false->Post (G (Value.agg (Array.mk [Z1 1,Z1 (-1:Int),Z1 (-1:Int),Z1 1,Z1 (-1:Int),Z1 (-1:Int),Z1 1,Z1 1,Z1 0,Z1 0,Value.bool false,Z1 0,Z1 0,Value.bool false,Z1 0,Z1 0])) [some (Sum.inl (47,[Value.bool a,Z1 b,Z1 c])),some (Sum.inl (53,[Z1 1,Z1 (-1:Int),Z1 (-1:Int),Z1 1,Z1 (-1:Int),Z1 (-1:Int),Z1 1,Z1 1,Z1 0,Z1 0,Value.bool false,Z1 0,Z1 0,Value.bool false,Z1 0,Z1 0])),some (Sum.inr (Sum.inl (3,Row.mk [Z1 0] 1 [Col.mk [(-1:Int)] [] []]))),some (Sum.inr (Sum.inl (3,Row.mk [Z1 0] 1 [Col.mk [(-1:Int)] [] []]))),some (Sum.inl (53,[Z1 1,Z1 (-1:Int),Z1 (-1:Int),Z1 1,Z1 (-1:Int),Z1 (-1:Int),Z1 1,Z1 1,Z1 0,Z1 0,Value.bool false,Z1 0,Z1 0,Value.bool false,Z1 0,Z1 0]))]))) ?_ (by kernel_rfl)
  intro Z1;subst Z1;have fin:∀ (z:Sw) (hp:Hp R),z=delS a ⟨b,c⟩->G (.agg ⟨[.int .i64 z.c.n,.int .i64 z.c.s,.int .i64 z.c.l,.int .i64 z.w.n,.int .i64 z.w.s,.int .i64 z.w.l,.int .i64 z.d,.int .i64 z.f,.int .i64 z.m.k,.int .i64 z.m.i,.bool z.gf,.int .i64 z.g.k,.int .i64 z.g.i,.bool z.lf,.int .i64 z.l.k,.int .i64 z.l.i]⟩) hp:=by
   intro z hp ht;subst ht;subst hG;exact⟨⟨[],rfl,rfl,trivial,rfl,rfl,rfl,rfl⟩⟩
  clear hG
  repeat' (first|apply And.intro|apply Vc.mk|apply fits.mk|intro h|apply Post.mk)
  all_goals (try simp only[sB] at *)
  all_goals first|contradiction|omega|exact vb1 ‹_›|exact vb2 ‹_›|exact vb3 ‹_›|exact⟨rfl,by omega⟩|exact rfl|(simp[*,-List.getD_eq_getElem?_getD];done)|skip
  ·have h:a=true:=by assumption
   exact fin ⟨⟨1,-1,-1⟩,⟨1,-1,-1⟩,1,0,⟨b,c⟩,false,⟨0,0⟩,false,⟨0,0⟩⟩ _ (by rw[delS,if_pos h])
  ·have h:a=false:=by assumption
   exact fin ⟨⟨1,-1,-1⟩,⟨1,-1,-1⟩,1,1,⟨0,0⟩,false,⟨0,0⟩,false,⟨0,0⟩⟩ _ (by rw[delS,if_neg (by rw[h];decide)])
 ·cases hx
def TSum {R:Type}:Tab R:=[(152,liftC zN 2 (con1 insdP)),(153,liftC zN 2 (con1 deldP))]
theorem TSum_ok {R:Type} {D:Res R}:TabOk D Tryz.prog (TSum:Tab R):=⟨liftC_ok _ _ insd_ok,liftC_ok _ _ deld_ok,trivial⟩
def msumP {R:Type}:Prim R:=fun args hh=>match args,hh with
 |[.agg ⟨[.int .i64 k0,.bool k1,.int .i64 k2,.int .i64 k3,.bool k4,.bool k5,.int .i64 k6,.int .i64 k7]⟩],[]=>some ⟨True,.agg ⟨[.int .i64 (O8.sum (⟨k0,k1,⟨k2,k3⟩,k4,k5,⟨k6,k7⟩⟩:Mk)).c.n,.int .i64 (O8.sum (⟨k0,k1,⟨k2,k3⟩,k4,k5,⟨k6,k7⟩⟩:Mk)).c.s,.int .i64 (O8.sum (⟨k0,k1,⟨k2,k3⟩,k4,k5,⟨k6,k7⟩⟩:Mk)).c.l,.int .i64 (O8.sum (⟨k0,k1,⟨k2,k3⟩,k4,k5,⟨k6,k7⟩⟩:Mk)).w.n,.int .i64 (O8.sum (⟨k0,k1,⟨k2,k3⟩,k4,k5,⟨k6,k7⟩⟩:Mk)).w.s,.int .i64 (O8.sum (⟨k0,k1,⟨k2,k3⟩,k4,k5,⟨k6,k7⟩⟩:Mk)).w.l,.int .i64 (O8.sum (⟨k0,k1,⟨k2,k3⟩,k4,k5,⟨k6,k7⟩⟩:Mk)).d,.int .i64 (O8.sum (⟨k0,k1,⟨k2,k3⟩,k4,k5,⟨k6,k7⟩⟩:Mk)).f,.int .i64 (O8.sum (⟨k0,k1,⟨k2,k3⟩,k4,k5,⟨k6,k7⟩⟩:Mk)).m.k,.int .i64 (O8.sum (⟨k0,k1,⟨k2,k3⟩,k4,k5,⟨k6,k7⟩⟩:Mk)).m.i,.bool (O8.sum (⟨k0,k1,⟨k2,k3⟩,k4,k5,⟨k6,k7⟩⟩:Mk)).gf,.int .i64 (O8.sum (⟨k0,k1,⟨k2,k3⟩,k4,k5,⟨k6,k7⟩⟩:Mk)).g.k,.int .i64 (O8.sum (⟨k0,k1,⟨k2,k3⟩,k4,k5,⟨k6,k7⟩⟩:Mk)).g.i,.bool (O8.sum (⟨k0,k1,⟨k2,k3⟩,k4,k5,⟨k6,k7⟩⟩:Mk)).lf,.int .i64 (O8.sum (⟨k0,k1,⟨k2,k3⟩,k4,k5,⟨k6,k7⟩⟩:Mk)).l.k,.int .i64 (O8.sum (⟨k0,k1,⟨k2,k3⟩,k4,k5,⟨k6,k7⟩⟩:Mk)).l.i]⟩,none,hh,[],[]⟩
 |_,_=>none
theorem msum_ok {R:Type} {D:Res R}:ConOk D Tryz.prog 151 (con1 msumP):=by
 refine prK Tryz.f151 fun args hh x hx=>?_
 unfold msumP at hx;split at hx
 ·rename_i k0 k1 k2 k3 k4 k5 k6 k7;injection hx with hx
  subst hx;refine q4 fun _ hv=>?_
  generalize hG:Rx.Ends (R:=R) _ _=G;refine rx_okQ (T:=TSum) TSum_ok mixed 200 (q:=let Z3:=Value.int IntKind.i64;let Z1:=(insS (It.mk k2 k3) k4);let Z2:=(delS k5 (It.mk k6 k7));(k1=true->Vc True/\Post (G (Value.agg (Array.mk [Z3 (Ti.Td.n (Sw.c Z1)),Z3 (Ti.Td.s (Sw.c Z1)),Z3 (Ti.Td.l (Sw.c Z1)),Z3 (Ti.Td.n (Sw.w Z1)),Z3 (Ti.Td.s (Sw.w Z1)),Z3 (Ti.Td.l (Sw.w Z1)),Z3 (Sw.d Z1),Z3 (Sw.f Z1),Z3 (It.k (Sw.m Z1)),Z3 (It.i (Sw.m Z1)),Value.bool (Sw.gf Z1),Z3 (It.k (Sw.g Z1)),Z3 (It.i (Sw.g Z1)),Value.bool (Sw.lf Z1),Z3 (It.k (Sw.l Z1)),Z3 (It.i (Sw.l Z1))])) [some (Sum.inl (49,[Z3 k0,Value.bool k1,Z3 k2,Z3 k3,Value.bool k4,Value.bool k5,Z3 k6,Z3 k7])),some (Sum.inl (53,[Z3 (Ti.Td.n (Sw.c Z1)),Z3 (Ti.Td.s (Sw.c Z1)),Z3 (Ti.Td.l (Sw.c Z1)),Z3 (Ti.Td.n (Sw.w Z1)),Z3 (Ti.Td.s (Sw.w Z1)),Z3 (Ti.Td.l (Sw.w Z1)),Z3 (Sw.d Z1),Z3 (Sw.f Z1),Z3 (It.k (Sw.m Z1)),Z3 (It.i (Sw.m Z1)),Value.bool (Sw.gf Z1),Z3 (It.k (Sw.g Z1)),Z3 (It.i (Sw.g Z1)),Value.bool (Sw.lf Z1),Z3 (It.k (Sw.l Z1)),Z3 (It.i (Sw.l Z1))]))]))/\(k1=false->Vc True/\Post (G (Value.agg (Array.mk [Z3 (Ti.Td.n (Sw.c Z2)),Z3 (Ti.Td.s (Sw.c Z2)),Z3 (Ti.Td.l (Sw.c Z2)),Z3 (Ti.Td.n (Sw.w Z2)),Z3 (Ti.Td.s (Sw.w Z2)),Z3 (Ti.Td.l (Sw.w Z2)),Z3 (Sw.d Z2),Z3 (Sw.f Z2),Z3 (It.k (Sw.m Z2)),Z3 (It.i (Sw.m Z2)),Value.bool (Sw.gf Z2),Z3 (It.k (Sw.g Z2)),Z3 (It.i (Sw.g Z2)),Value.bool (Sw.lf Z2),Z3 (It.k (Sw.l Z2)),Z3 (It.i (Sw.l Z2))])) [some (Sum.inl (49,[Z3 k0,Value.bool k1,Z3 k2,Z3 k3,Value.bool k4,Value.bool k5,Z3 k6,Z3 k7])),some (Sum.inl (53,[Z3 (Ti.Td.n (Sw.c Z2)),Z3 (Ti.Td.s (Sw.c Z2)),Z3 (Ti.Td.l (Sw.c Z2)),Z3 (Ti.Td.n (Sw.w Z2)),Z3 (Ti.Td.s (Sw.w Z2)),Z3 (Ti.Td.l (Sw.w Z2)),Z3 (Sw.d Z2),Z3 (Sw.f Z2),Z3 (It.k (Sw.m Z2)),Z3 (It.i (Sw.m Z2)),Value.bool (Sw.gf Z2),Z3 (It.k (Sw.g Z2)),Z3 (It.i (Sw.g Z2)),Value.bool (Sw.lf Z2),Z3 (It.k (Sw.l Z2)),Z3 (It.i (Sw.l Z2))]))]))) ?_ (by kernel_rfl)
  intro Z3 Z1 Z2;subst Z2 Z1 Z3;have fin:∀ (z:Sw) (hp:Hp R),z=O8.sum (⟨k0,k1,⟨k2,k3⟩,k4,k5,⟨k6,k7⟩⟩:Mk)->G (.agg ⟨[.int .i64 z.c.n,.int .i64 z.c.s,.int .i64 z.c.l,.int .i64 z.w.n,.int .i64 z.w.s,.int .i64 z.w.l,.int .i64 z.d,.int .i64 z.f,.int .i64 z.m.k,.int .i64 z.m.i,.bool z.gf,.int .i64 z.g.k,.int .i64 z.g.i,.bool z.lf,.int .i64 z.l.k,.int .i64 z.l.i]⟩) hp:=by
   intro z hp ht;subst ht;subst hG;exact⟨⟨[],rfl,rfl,trivial,rfl,rfl,rfl,rfl⟩⟩
  clear hG
  repeat' (first|apply And.intro|apply Vc.mk|apply fits.mk|intro h|apply Post.mk)
  all_goals (try simp only[sB] at *)
  all_goals first|contradiction|omega|exact vb1 ‹_›|exact vb2 ‹_›|exact vb3 ‹_›|exact⟨rfl,by omega⟩|exact rfl|(simp[*,-List.getD_eq_getElem?_getD];done)|skip
  ·have h:k1=true:=by assumption
   exact fin (insS ⟨k2,k3⟩ k4) _ (by show _=if k1=true then _ else _;rw[if_pos h])
  ·have h:k1=false:=by assumption
   exact fin (delS k5 ⟨k6,k7⟩) _ (by show _=if k1=true then _ else _;rw[if_neg (by rw[h];decide)])
 ·cases hx
def mcmpP {R:Type}:Prim R:=fun args hh=>match args,hh with
 |[.agg ⟨[.int .i64 k0,.bool k1,.int .i64 k2,.int .i64 k3,.bool k4,.bool k5,.int .i64 k6,.int .i64 k7]⟩,.agg ⟨[.int .i64 x0,.bool x1,.int .i64 x2,.int .i64 x3,.bool x4,.bool x5,.int .i64 x6,.int .i64 x7]⟩],[]=>some ⟨True,.int .i64 (O8.cmp (⟨k0,k1,⟨k2,k3⟩,k4,k5,⟨k6,k7⟩⟩:Mk) (⟨x0,x1,⟨x2,x3⟩,x4,x5,⟨x6,x7⟩⟩:Mk)),none,hh,[],[]⟩
 |_,_=>none
theorem mcmp_ok {R:Type} {D:Res R}:ConOk D Tryz.prog 150 (con1 mcmpP):=by
 refine prK Tryz.f150 fun args hh x hx=>?_
 unfold mcmpP at hx;split at hx
 ·rename_i k0 k1 k2 k3 k4 k5 k6 k7 x0 x1 x2 x3 x4 x5 x6 x7;injection hx with hx
  subst hx;refine q4 fun _ hv=>?_
  generalize hG:Rx.Ends (R:=R) _ _=G;refine rx_okQ (T:=TCc) TCc_ok mixed 200 (q:=let Z1:=Value.int IntKind.i64;Vc True/\Post (G (Z1 (c64 k0 x0)) [some (Sum.inl (49,[Z1 k0,Value.bool k1,Z1 k2,Z1 k3,Value.bool k4,Value.bool k5,Z1 k6,Z1 k7])),some (Sum.inl (49,[Z1 x0,Value.bool x1,Z1 x2,Z1 x3,Value.bool x4,Value.bool x5,Z1 x6,Z1 x7]))])) ?_ (by kernel_rfl)
  intro Z1;subst Z1;subst hG
  repeat' (first|apply And.intro|apply Vc.mk|apply fits.mk|intro h|apply Post.mk)
  all_goals (try simp only[sB] at *)
  all_goals first|contradiction|omega|exact vb1 ‹_›|exact vb2 ‹_›|exact vb3 ‹_›|exact⟨rfl,by omega⟩|exact rfl|(simp[*,-List.getD_eq_getElem?_getD];done)|skip
  exact⟨[],rfl,rfl,trivial,rfl,rfl,rfl,rfl⟩
 ·cases hx
def keyP {R:Type}:Prim R:=fun args hh=>match args,hh with
 |[.int .i64 a],[]=>some ⟨True,.agg ⟨[.int .i64 a,.bool false,.int .i64 0,.int .i64 0,.bool false,.bool false,.int .i64 0,.int .i64 0]⟩,none,hh,[],[]⟩
 |_,_=>none
theorem key_ok {R:Type} {D:Res R}:ConOk D Tryz.prog 50 (con1 keyP):=by
 refine prK Tryz.f50 fun args hh x hx=>?_
 unfold keyP at hx;split at hx
 ·rename_i a;injection hx with hx
  subst hx;refine q4 fun _ hv=>?_
  generalize hG:Rx.Ends (R:=R) _ _=G;refine rx_okQ (T:=[]) trivial mixed 200 (q:=let Z1:=Value.int IntKind.i64;Post (G (Value.agg (Array.mk [Z1 a,Value.bool false,Z1 0,Z1 0,Value.bool false,Value.bool false,Z1 0,Z1 0])) [some (Sum.inl (49,[Z1 a,Value.bool false,Z1 0,Z1 0,Value.bool false,Value.bool false,Z1 0,Z1 0]))])) ?_ (by kernel_rfl)
  intro Z1;subst Z1;subst hG
  repeat' (first|apply And.intro|apply Vc.mk|apply fits.mk|intro h|apply Post.mk)
  all_goals (try simp only[sB] at *)
  all_goals first|contradiction|omega|exact vb1 ‹_›|exact vb2 ‹_›|exact vb3 ‹_›|exact⟨rfl,by omega⟩|exact rfl|(simp[*,-List.getD_eq_getElem?_getD];done)|skip
  exact⟨[],rfl,rfl,trivial,rfl,rfl,rfl,rfl⟩
 ·cases hx
def tsmP {R:Type}:Prim R:=fun args hh=>match args,hh with
 |[.agg ⟨[.int .i64 x0,.int .i64 x1,.int .i64 x2,.int .i64 x3,.int .i64 x4,.int .i64 x5,.int .i64 x6,.int .i64 x7,.int .i64 x8,.int .i64 x9,.bool x10,.int .i64 x11,.int .i64 x12,.bool x13,.int .i64 x14,.int .i64 x15]⟩],[]=>some ⟨True,.bool (x6 != x7),none,hh,[],[]⟩
 |_,_=>none
theorem tsm_ok {R:Type} {D:Res R}:ConOk D Tryz.prog 158 (con1 tsmP):=by
 refine prK Tryz.f158 fun args hh x hx=>?_
 unfold tsmP at hx;split at hx
 ·rename_i x0 x1 x2 x3 x4 x5 x6 x7 x8 x9 x10 x11 x12 x13 x14 x15;injection hx with hx
  subst hx;refine q4 fun _ hv=>?_
  generalize hG:Rx.Ends (R:=R) _ _=G;refine rx_okQ (T:=[]) trivial mixed 200 (q:=let Z1:=Value.int IntKind.i64;Post (G (Value.bool (x6 != x7)) [some (Sum.inl (53,[Z1 x0,Z1 x1,Z1 x2,Z1 x3,Z1 x4,Z1 x5,Z1 x6,Z1 x7,Z1 x8,Z1 x9,Value.bool x10,Z1 x11,Z1 x12,Value.bool x13,Z1 x14,Z1 x15]))])) ?_ (by kernel_rfl)
  intro Z1;subst Z1;subst hG
  repeat' (first|apply And.intro|apply Vc.mk|apply fits.mk|intro h|apply Post.mk)
  all_goals (try simp only[sB] at *)
  all_goals first|contradiction|omega|exact vb1 ‹_›|exact vb2 ‹_›|exact vb3 ‹_›|exact⟨rfl,by omega⟩|exact rfl|(simp[*,-List.getD_eq_getElem?_getD];done)|skip
  exact⟨[],rfl,rfl,trivial,rfl,rfl,rfl,rfl⟩
 ·cases hx
def TMo {R:Type}:Tab R:=[(158,liftC zN 2 (con1 tsmP)),(108,liftC zN 2 (con1 icmP))]
theorem TMo_ok {R:Type} {D:Res R}:TabOk D Tryz.prog (TMo:Tab R):=⟨liftC_ok _ _ tsm_ok,liftC_ok _ _ icm_ok,trivial⟩
def mostP {R:Type}:Prim R:=fun args hh=>match args,hh with
 |[.agg ⟨[.int .i64 x0,.int .i64 x1,.int .i64 x2,.int .i64 x3,.int .i64 x4,.int .i64 x5,.int .i64 x6,.int .i64 x7,.int .i64 x8,.int .i64 x9,.bool x10,.int .i64 x11,.int .i64 x12,.bool x13,.int .i64 x14,.int .i64 x15]⟩,.agg ⟨[.int .i64 y0,.int .i64 y1,.int .i64 y2,.int .i64 y3,.int .i64 y4,.int .i64 y5,.int .i64 y6,.int .i64 y7,.int .i64 y8,.int .i64 y9,.bool y10,.int .i64 y11,.int .i64 y12,.bool y13,.int .i64 y14,.int .i64 y15]⟩],[]=>some ⟨True,.agg ⟨[.int .i64 (bigS (⟨⟨x0,x1,x2⟩,⟨x3,x4,x5⟩,x6,x7,⟨x8,x9⟩,x10,⟨x11,x12⟩,x13,⟨x14,x15⟩⟩:Sw) (⟨⟨y0,y1,y2⟩,⟨y3,y4,y5⟩,y6,y7,⟨y8,y9⟩,y10,⟨y11,y12⟩,y13,⟨y14,y15⟩⟩:Sw)).k,.int .i64 (bigS (⟨⟨x0,x1,x2⟩,⟨x3,x4,x5⟩,x6,x7,⟨x8,x9⟩,x10,⟨x11,x12⟩,x13,⟨x14,x15⟩⟩:Sw) (⟨⟨y0,y1,y2⟩,⟨y3,y4,y5⟩,y6,y7,⟨y8,y9⟩,y10,⟨y11,y12⟩,y13,⟨y14,y15⟩⟩:Sw)).i]⟩,none,hh,[],[]⟩
 |_,_=>none
theorem most_ok {R:Type} {D:Res R}:ConOk D Tryz.prog 159 (con1 mostP):=by
 refine prK Tryz.f159 fun args hh x hx=>?_
 unfold mostP at hx;split at hx
 ·rename_i x0 x1 x2 x3 x4 x5 x6 x7 x8 x9 x10 x11 x12 x13 x14 x15 y0 y1 y2 y3 y4 y5 y6 y7 y8 y9 y10 y11 y12 y13 y14 y15;injection hx with hx
  subst hx;refine q4 fun _ hv=>?_
  generalize hG:Rx.Ends (R:=R) _ _=G;refine rx_okQ (T:=TMo) TMo_ok mixed 200 (q:=let Z1:=Value.int IntKind.i64;Vc True/\((!y6 != y7)=true->Post (G (Value.agg (Array.mk [Z1 x8,Z1 x9])) [some (Sum.inl (53,[Z1 x0,Z1 x1,Z1 x2,Z1 x3,Z1 x4,Z1 x5,Z1 x6,Z1 x7,Z1 x8,Z1 x9,Value.bool x10,Z1 x11,Z1 x12,Value.bool x13,Z1 x14,Z1 x15])),some (Sum.inl (53,[Z1 y0,Z1 y1,Z1 y2,Z1 y3,Z1 y4,Z1 y5,Z1 y6,Z1 y7,Z1 y8,Z1 y9,Value.bool y10,Z1 y11,Z1 y12,Value.bool y13,Z1 y14,Z1 y15])),some (Sum.inl (31,[Z1 x8,Z1 x9]))]))/\((!y6 != y7)=false->Vc True/\((!x6 != x7)=false->Vc True/\(decide (icmp (It.mk y8 y9) (It.mk x8 x9)>(0:Int))=true->Post (G (Value.agg (Array.mk [Z1 y8,Z1 y9])) [some (Sum.inl (53,[Z1 x0,Z1 x1,Z1 x2,Z1 x3,Z1 x4,Z1 x5,Z1 x6,Z1 x7,Z1 x8,Z1 x9,Value.bool x10,Z1 x11,Z1 x12,Value.bool x13,Z1 x14,Z1 x15])),some (Sum.inl (53,[Z1 y0,Z1 y1,Z1 y2,Z1 y3,Z1 y4,Z1 y5,Z1 y6,Z1 y7,Z1 y8,Z1 y9,Value.bool y10,Z1 y11,Z1 y12,Value.bool y13,Z1 y14,Z1 y15])),some (Sum.inl (31,[Z1 y8,Z1 y9]))]))/\(decide (icmp (It.mk y8 y9) (It.mk x8 x9)>(0:Int))=false->Post (G (Value.agg (Array.mk [Z1 x8,Z1 x9])) [some (Sum.inl (53,[Z1 x0,Z1 x1,Z1 x2,Z1 x3,Z1 x4,Z1 x5,Z1 x6,Z1 x7,Z1 x8,Z1 x9,Value.bool x10,Z1 x11,Z1 x12,Value.bool x13,Z1 x14,Z1 x15])),some (Sum.inl (53,[Z1 y0,Z1 y1,Z1 y2,Z1 y3,Z1 y4,Z1 y5,Z1 y6,Z1 y7,Z1 y8,Z1 y9,Value.bool y10,Z1 y11,Z1 y12,Value.bool y13,Z1 y14,Z1 y15])),some (Sum.inl (31,[Z1 x8,Z1 x9]))])))/\((!x6 != x7)=true->Post (G (Value.agg (Array.mk [Z1 y8,Z1 y9])) [some (Sum.inl (53,[Z1 x0,Z1 x1,Z1 x2,Z1 x3,Z1 x4,Z1 x5,Z1 x6,Z1 x7,Z1 x8,Z1 x9,Value.bool x10,Z1 x11,Z1 x12,Value.bool x13,Z1 x14,Z1 x15])),some (Sum.inl (53,[Z1 y0,Z1 y1,Z1 y2,Z1 y3,Z1 y4,Z1 y5,Z1 y6,Z1 y7,Z1 y8,Z1 y9,Value.bool y10,Z1 y11,Z1 y12,Value.bool y13,Z1 y14,Z1 y15])),some (Sum.inl (31,[Z1 y8,Z1 y9]))])))) ?_ (by kernel_rfl)
  intro Z1;subst Z1;have fin:∀ (z:It) (hp:Hp R),z=bigS (⟨⟨x0,x1,x2⟩,⟨x3,x4,x5⟩,x6,x7,⟨x8,x9⟩,x10,⟨x11,x12⟩,x13,⟨x14,x15⟩⟩:Sw) (⟨⟨y0,y1,y2⟩,⟨y3,y4,y5⟩,y6,y7,⟨y8,y9⟩,y10,⟨y11,y12⟩,y13,⟨y14,y15⟩⟩:Sw)->G (.agg ⟨[.int .i64 z.k,.int .i64 z.i]⟩) hp:=by
   intro z hp ht;subst ht;subst hG;exact⟨⟨[],rfl,rfl,trivial,rfl,rfl,rfl,rfl⟩⟩
  clear hG
  repeat' (first|apply And.intro|apply Vc.mk|apply fits.mk|intro h|apply Post.mk)
  all_goals (try simp only[sB] at *)
  all_goals first|contradiction|omega|exact vb1 ‹_›|exact vb2 ‹_›|exact vb3 ‹_›|exact⟨rfl,by omega⟩|exact rfl|(simp[*,-List.getD_eq_getElem?_getD];done)|skip
  all_goals first
   |exact fin ⟨x8,x9⟩ _ (by simp only[bigS];rw[if_pos (by assumption)])
   |exact fin ⟨y8,y9⟩ _ (by simp only[bigS];rw[if_neg (by assumption),if_pos (by first|exact .inl (by assumption)|exact .inr ((icmp_pos _ _).1 (by assumption)))])
   |exact fin ⟨x8,x9⟩ _ (by simp only[bigS];rw[if_neg (by assumption),if_neg (by rintro (h|h);contradiction;have:=(icmp_pos ⟨y8,y9⟩ ⟨x8,x9⟩).2 h;omega)])
 ·cases hx
def outrP {R:Type}:Prim R:=fun args hh=>match args,hh with
 |[.agg ⟨[.bool x0,.int .i64 x1,.int .i64 x2]⟩,.agg ⟨[.bool y0,.int .i64 y1,.int .i64 y2]⟩,.int .i64 sd],[]=>some ⟨True,.agg ⟨[.bool (outI sd x0 ⟨x1,x2⟩ y0 ⟨y1,y2⟩).1,.int .i64 (outI sd x0 ⟨x1,x2⟩ y0 ⟨y1,y2⟩).2.k,.int .i64 (outI sd x0 ⟨x1,x2⟩ y0 ⟨y1,y2⟩).2.i]⟩,none,hh,[],[]⟩
 |_,_=>none
theorem outr_ok {R:Type} {D:Res R}:ConOk D Tryz.prog 160 (con1 outrP):=by
 refine prK Tryz.f160 fun args hh x hx=>?_
 unfold outrP at hx;split at hx
 ·rename_i x0 x1 x2 y0 y1 y2 sd;injection hx with hx
  subst hx;refine q4 fun _ hv=>?_
  generalize hG:Rx.Ends (R:=R) _ _=G;refine rx_okQ (T:=TMo) TMo_ok mixed 200 (q:=let Z1:=Value.int IntKind.i64;(y0=true->((!x0)=false->Vc True/\((icmp (It.mk y1 y2) (It.mk x1 x2)==sd)=true->Post (G (Value.agg (Array.mk [Value.bool y0,Z1 y1,Z1 y2])) [some (Sum.inl (47,[Value.bool x0,Z1 x1,Z1 x2])),some (Sum.inl (47,[Value.bool y0,Z1 y1,Z1 y2])),some (Sum.inl (47,[Value.bool y0,Z1 y1,Z1 y2]))]))/\((icmp (It.mk y1 y2) (It.mk x1 x2)==sd)=false->((!x0)=true->Post (G (Value.agg (Array.mk [Value.bool false,Z1 0,Z1 0])) [some (Sum.inl (47,[Value.bool x0,Z1 x1,Z1 x2])),some (Sum.inl (47,[Value.bool y0,Z1 y1,Z1 y2])),some (Sum.inl (47,[Value.bool false,Z1 0,Z1 0]))]))/\((!x0)=false->Post (G (Value.agg (Array.mk [Value.bool x0,Z1 x1,Z1 x2])) [some (Sum.inl (47,[Value.bool x0,Z1 x1,Z1 x2])),some (Sum.inl (47,[Value.bool y0,Z1 y1,Z1 y2])),some (Sum.inl (47,[Value.bool x0,Z1 x1,Z1 x2]))]))))/\((!x0)=true->Post (G (Value.agg (Array.mk [Value.bool y0,Z1 y1,Z1 y2])) [some (Sum.inl (47,[Value.bool x0,Z1 x1,Z1 x2])),some (Sum.inl (47,[Value.bool y0,Z1 y1,Z1 y2])),some (Sum.inl (47,[Value.bool y0,Z1 y1,Z1 y2]))])))/\(y0=false->((!x0)=true->Post (G (Value.agg (Array.mk [Value.bool false,Z1 0,Z1 0])) [some (Sum.inl (47,[Value.bool x0,Z1 x1,Z1 x2])),some (Sum.inl (47,[Value.bool y0,Z1 y1,Z1 y2])),some (Sum.inl (47,[Value.bool false,Z1 0,Z1 0]))]))/\((!x0)=false->Post (G (Value.agg (Array.mk [Value.bool x0,Z1 x1,Z1 x2])) [some (Sum.inl (47,[Value.bool x0,Z1 x1,Z1 x2])),some (Sum.inl (47,[Value.bool y0,Z1 y1,Z1 y2])),some (Sum.inl (47,[Value.bool x0,Z1 x1,Z1 x2]))])))) ?_ (by kernel_rfl)
  intro Z1;subst Z1;have fin:∀ (z:Bool×It) (hp:Hp R),z=outI sd x0 ⟨x1,x2⟩ y0 ⟨y1,y2⟩->G (.agg ⟨[.bool z.1,.int .i64 z.2.k,.int .i64 z.2.i]⟩) hp:=by
   intro z hp ht;subst ht;subst hG;exact⟨⟨[],rfl,rfl,trivial,rfl,rfl,rfl,rfl⟩⟩
  clear hG
  repeat' (first|apply And.intro|apply Vc.mk|apply fits.mk|intro h|apply Post.mk)
  all_goals (try simp only[sB] at *)
  all_goals first|contradiction|omega|exact vb1 ‹_›|exact vb2 ‹_›|exact vb3 ‹_›|exact⟨rfl,by omega⟩|exact rfl|(simp[*,-List.getD_eq_getElem?_getD];done)|skip
  all_goals first
   |(exfalso;simp_all;done)
   |exact fin (y0,⟨y1,y2⟩) _ (by simp[outI, *];done)
   |exact fin (false,⟨0,0⟩) _ (by simp[outI, *];done)
   |exact fin (x0,⟨x1,x2⟩) _ (by simp[outI, *];done)
 ·cases hx
def TPs {R:Type}:Tab R:=[(1000000000,wrapCon),(155,liftC zN 2 (con1 Ti.plusP)),(159,liftC zN 2 (con1 mostP)),(160,liftC zN 2 (con1 outrP))]
theorem TPs_ok {R:Type} {D:Res R}:TabOk D Tryz.prog (TPs:Tab R):=⟨wrapCon_ok,liftC_ok _ _ Ti.plus_ok,liftC_ok _ _ most_ok,liftC_ok _ _ outr_ok,trivial⟩
def splusP {R:Type}:Prim R:=fun args hh=>match args,hh with
 |[.agg ⟨[.int .i64 x0,.int .i64 x1,.int .i64 x2,.int .i64 x3,.int .i64 x4,.int .i64 x5,.int .i64 x6,.int .i64 x7,.int .i64 x8,.int .i64 x9,.bool x10,.int .i64 x11,.int .i64 x12,.bool x13,.int .i64 x14,.int .i64 x15]⟩,.agg ⟨[.int .i64 y0,.int .i64 y1,.int .i64 y2,.int .i64 y3,.int .i64 y4,.int .i64 y5,.int .i64 y6,.int .i64 y7,.int .i64 y8,.int .i64 y9,.bool y10,.int .i64 y11,.int .i64 y12,.bool y13,.int .i64 y14,.int .i64 y15]⟩],[]=>some ⟨True,.agg ⟨[.int .i64 (O8.plus (⟨⟨x0,x1,x2⟩,⟨x3,x4,x5⟩,x6,x7,⟨x8,x9⟩,x10,⟨x11,x12⟩,x13,⟨x14,x15⟩⟩:Sw) (⟨⟨y0,y1,y2⟩,⟨y3,y4,y5⟩,y6,y7,⟨y8,y9⟩,y10,⟨y11,y12⟩,y13,⟨y14,y15⟩⟩:Sw)).c.n,.int .i64 (O8.plus (⟨⟨x0,x1,x2⟩,⟨x3,x4,x5⟩,x6,x7,⟨x8,x9⟩,x10,⟨x11,x12⟩,x13,⟨x14,x15⟩⟩:Sw) (⟨⟨y0,y1,y2⟩,⟨y3,y4,y5⟩,y6,y7,⟨y8,y9⟩,y10,⟨y11,y12⟩,y13,⟨y14,y15⟩⟩:Sw)).c.s,.int .i64 (O8.plus (⟨⟨x0,x1,x2⟩,⟨x3,x4,x5⟩,x6,x7,⟨x8,x9⟩,x10,⟨x11,x12⟩,x13,⟨x14,x15⟩⟩:Sw) (⟨⟨y0,y1,y2⟩,⟨y3,y4,y5⟩,y6,y7,⟨y8,y9⟩,y10,⟨y11,y12⟩,y13,⟨y14,y15⟩⟩:Sw)).c.l,.int .i64 (O8.plus (⟨⟨x0,x1,x2⟩,⟨x3,x4,x5⟩,x6,x7,⟨x8,x9⟩,x10,⟨x11,x12⟩,x13,⟨x14,x15⟩⟩:Sw) (⟨⟨y0,y1,y2⟩,⟨y3,y4,y5⟩,y6,y7,⟨y8,y9⟩,y10,⟨y11,y12⟩,y13,⟨y14,y15⟩⟩:Sw)).w.n,.int .i64 (O8.plus (⟨⟨x0,x1,x2⟩,⟨x3,x4,x5⟩,x6,x7,⟨x8,x9⟩,x10,⟨x11,x12⟩,x13,⟨x14,x15⟩⟩:Sw) (⟨⟨y0,y1,y2⟩,⟨y3,y4,y5⟩,y6,y7,⟨y8,y9⟩,y10,⟨y11,y12⟩,y13,⟨y14,y15⟩⟩:Sw)).w.s,.int .i64 (O8.plus (⟨⟨x0,x1,x2⟩,⟨x3,x4,x5⟩,x6,x7,⟨x8,x9⟩,x10,⟨x11,x12⟩,x13,⟨x14,x15⟩⟩:Sw) (⟨⟨y0,y1,y2⟩,⟨y3,y4,y5⟩,y6,y7,⟨y8,y9⟩,y10,⟨y11,y12⟩,y13,⟨y14,y15⟩⟩:Sw)).w.l,.int .i64 (O8.plus (⟨⟨x0,x1,x2⟩,⟨x3,x4,x5⟩,x6,x7,⟨x8,x9⟩,x10,⟨x11,x12⟩,x13,⟨x14,x15⟩⟩:Sw) (⟨⟨y0,y1,y2⟩,⟨y3,y4,y5⟩,y6,y7,⟨y8,y9⟩,y10,⟨y11,y12⟩,y13,⟨y14,y15⟩⟩:Sw)).d,.int .i64 (O8.plus (⟨⟨x0,x1,x2⟩,⟨x3,x4,x5⟩,x6,x7,⟨x8,x9⟩,x10,⟨x11,x12⟩,x13,⟨x14,x15⟩⟩:Sw) (⟨⟨y0,y1,y2⟩,⟨y3,y4,y5⟩,y6,y7,⟨y8,y9⟩,y10,⟨y11,y12⟩,y13,⟨y14,y15⟩⟩:Sw)).f,.int .i64 (O8.plus (⟨⟨x0,x1,x2⟩,⟨x3,x4,x5⟩,x6,x7,⟨x8,x9⟩,x10,⟨x11,x12⟩,x13,⟨x14,x15⟩⟩:Sw) (⟨⟨y0,y1,y2⟩,⟨y3,y4,y5⟩,y6,y7,⟨y8,y9⟩,y10,⟨y11,y12⟩,y13,⟨y14,y15⟩⟩:Sw)).m.k,.int .i64 (O8.plus (⟨⟨x0,x1,x2⟩,⟨x3,x4,x5⟩,x6,x7,⟨x8,x9⟩,x10,⟨x11,x12⟩,x13,⟨x14,x15⟩⟩:Sw) (⟨⟨y0,y1,y2⟩,⟨y3,y4,y5⟩,y6,y7,⟨y8,y9⟩,y10,⟨y11,y12⟩,y13,⟨y14,y15⟩⟩:Sw)).m.i,.bool (O8.plus (⟨⟨x0,x1,x2⟩,⟨x3,x4,x5⟩,x6,x7,⟨x8,x9⟩,x10,⟨x11,x12⟩,x13,⟨x14,x15⟩⟩:Sw) (⟨⟨y0,y1,y2⟩,⟨y3,y4,y5⟩,y6,y7,⟨y8,y9⟩,y10,⟨y11,y12⟩,y13,⟨y14,y15⟩⟩:Sw)).gf,.int .i64 (O8.plus (⟨⟨x0,x1,x2⟩,⟨x3,x4,x5⟩,x6,x7,⟨x8,x9⟩,x10,⟨x11,x12⟩,x13,⟨x14,x15⟩⟩:Sw) (⟨⟨y0,y1,y2⟩,⟨y3,y4,y5⟩,y6,y7,⟨y8,y9⟩,y10,⟨y11,y12⟩,y13,⟨y14,y15⟩⟩:Sw)).g.k,.int .i64 (O8.plus (⟨⟨x0,x1,x2⟩,⟨x3,x4,x5⟩,x6,x7,⟨x8,x9⟩,x10,⟨x11,x12⟩,x13,⟨x14,x15⟩⟩:Sw) (⟨⟨y0,y1,y2⟩,⟨y3,y4,y5⟩,y6,y7,⟨y8,y9⟩,y10,⟨y11,y12⟩,y13,⟨y14,y15⟩⟩:Sw)).g.i,.bool (O8.plus (⟨⟨x0,x1,x2⟩,⟨x3,x4,x5⟩,x6,x7,⟨x8,x9⟩,x10,⟨x11,x12⟩,x13,⟨x14,x15⟩⟩:Sw) (⟨⟨y0,y1,y2⟩,⟨y3,y4,y5⟩,y6,y7,⟨y8,y9⟩,y10,⟨y11,y12⟩,y13,⟨y14,y15⟩⟩:Sw)).lf,.int .i64 (O8.plus (⟨⟨x0,x1,x2⟩,⟨x3,x4,x5⟩,x6,x7,⟨x8,x9⟩,x10,⟨x11,x12⟩,x13,⟨x14,x15⟩⟩:Sw) (⟨⟨y0,y1,y2⟩,⟨y3,y4,y5⟩,y6,y7,⟨y8,y9⟩,y10,⟨y11,y12⟩,y13,⟨y14,y15⟩⟩:Sw)).l.k,.int .i64 (O8.plus (⟨⟨x0,x1,x2⟩,⟨x3,x4,x5⟩,x6,x7,⟨x8,x9⟩,x10,⟨x11,x12⟩,x13,⟨x14,x15⟩⟩:Sw) (⟨⟨y0,y1,y2⟩,⟨y3,y4,y5⟩,y6,y7,⟨y8,y9⟩,y10,⟨y11,y12⟩,y13,⟨y14,y15⟩⟩:Sw)).l.i]⟩,none,hh,[],[]⟩
 |_,_=>none
theorem splus_ok {R:Type} {D:Res R}:ConOk D Tryz.prog 157 (con1 splusP):=by
 refine prK Tryz.f157 fun args hh x hx=>?_
 unfold splusP at hx;split at hx
 ·rename_i x0 x1 x2 x3 x4 x5 x6 x7 x8 x9 x10 x11 x12 x13 x14 x15 y0 y1 y2 y3 y4 y5 y6 y7 y8 y9 y10 y11 y12 y13 y14 y15;injection hx with hx
  subst hx;refine q4 fun _ hv=>?_
  generalize hG:Rx.Ends (R:=R) _ _=G;refine rx_okQ (T:=TPs) TPs_ok mixed 200 (q:=let Z8:=Value.int IntKind.i64;let Z1:=(Ti.Td.plus (Ti.Td.mk x0 x1 x2) (Ti.Td.mk y0 y1 y2));let Z2:=(Ti.Td.plus (Ti.Td.mk x3 x4 x5) (Ti.Td.mk y3 y4 y5));let Z3:=(bigS (Sw.mk (Ti.Td.mk x0 x1 x2) (Ti.Td.mk x3 x4 x5) x6 x7 (It.mk x8 x9) x10 (It.mk x11 x12) x13 (It.mk x14 x15)) (Sw.mk (Ti.Td.mk y0 y1 y2) (Ti.Td.mk y3 y4 y5) y6 y7 (It.mk y8 y9) y10 (It.mk y11 y12) y13 (It.mk y14 y15)));let Z4:=(Prod.fst (outI (1:Int) x10 (It.mk x11 x12) y10 (It.mk y11 y12)));let Z5:=(Prod.snd (outI (1:Int) x10 (It.mk x11 x12) y10 (It.mk y11 y12)));let Z6:=(Prod.fst (outI (-1:Int) x13 (It.mk x14 x15) y13 (It.mk y14 y15)));let Z7:=(Prod.snd (outI (-1:Int) x13 (It.mk x14 x15) y13 (It.mk y14 y15)));Vc True/\Vc True/\Vc True/\Vc True/\Vc True/\Vc True/\Vc True/\Post (G (Value.agg (Array.mk [Z8 (Ti.Td.n Z1),Z8 (Ti.Td.s Z1),Z8 (Ti.Td.l Z1),Z8 (Ti.Td.n Z2),Z8 (Ti.Td.s Z2),Z8 (Ti.Td.l Z2),Z8 (IntKind.wrap IntKind.i64 (x6+y6)),Z8 (IntKind.wrap IntKind.i64 (x7+y7)),Z8 (It.k Z3),Z8 (It.i Z3),Value.bool Z4,Z8 (It.k Z5),Z8 (It.i Z5),Value.bool Z6,Z8 (It.k Z7),Z8 (It.i Z7)])) [some (Sum.inl (53,[Z8 x0,Z8 x1,Z8 x2,Z8 x3,Z8 x4,Z8 x5,Z8 x6,Z8 x7,Z8 x8,Z8 x9,Value.bool x10,Z8 x11,Z8 x12,Value.bool x13,Z8 x14,Z8 x15])),some (Sum.inl (53,[Z8 y0,Z8 y1,Z8 y2,Z8 y3,Z8 y4,Z8 y5,Z8 y6,Z8 y7,Z8 y8,Z8 y9,Value.bool y10,Z8 y11,Z8 y12,Value.bool y13,Z8 y14,Z8 y15])),some (Sum.inl (53,[Z8 (Ti.Td.n Z1),Z8 (Ti.Td.s Z1),Z8 (Ti.Td.l Z1),Z8 (Ti.Td.n Z2),Z8 (Ti.Td.s Z2),Z8 (Ti.Td.l Z2),Z8 (IntKind.wrap IntKind.i64 (x6+y6)),Z8 (IntKind.wrap IntKind.i64 (x7+y7)),Z8 (It.k Z3),Z8 (It.i Z3),Value.bool Z4,Z8 (It.k Z5),Z8 (It.i Z5),Value.bool Z6,Z8 (It.k Z7),Z8 (It.i Z7)]))])) ?_ (by kernel_rfl)
  intro Z8 Z1 Z2 Z3 Z4 Z5 Z6 Z7;subst Z7 Z6 Z5 Z4 Z3 Z2 Z1 Z8;subst hG
  repeat' (first|apply And.intro|apply Vc.mk|apply fits.mk|intro h|apply Post.mk)
  all_goals (try simp only[sB] at *)
  all_goals first|contradiction|omega|exact vb1 ‹_›|exact vb2 ‹_›|exact vb3 ‹_›|exact⟨rfl,by omega⟩|exact rfl|(simp[*,-List.getD_eq_getElem?_getD];done)|skip
  exact⟨[],rfl,rfl,trivial,rfl,rfl,rfl,rfl⟩
 ·cases hx
end Wv
end Go.Proofs.YtpjdphiopolanaaGreat
