import Derived.LaidEql
import Derived.Below
import Derived.WalkKit
import Derived.Laws.OwnMore
import Derived.Deep.Draws
import Derived.Orders
import Derived.IntWalk
import Derived.Laws.Append
import Derived.Scope
import Derived.Still
set_option linter.unusedVariables false
set_option linter.unusedSimpArgs false
namespace Go.Proofs.YtpjdphiopolanaaGreat
namespace State
open Go.RowKit
structure Kept (F:Nat->Prop) (w w':World):Prop where
 os:w'.os=w.os
 tape:w'.tape=w.tape
 output:w'.output=w.output
 size:w.heap.size≤w'.heap.size
 block:∀ k,k<w.heap.size->¬ F k->w'.heap[k]?=w.heap[k]?
section
variable {F G:Nat->Prop} {a b c w w':World}
theorem Kept.refl (F:Nat->Prop) (w:World):Kept F w w:=⟨rfl,rfl,rfl,Nat.le_refl _,fun _ _ _=>rfl⟩
theorem Kept.trans (h:Kept F a b) (k:Kept G b c) (hFG:∀ i,i<a.heap.size->G i->F i):Kept F a c :=
 ⟨k.os.trans h.os,k.tape.trans h.tape,k.output.trans h.output,Nat.le_trans h.size k.size,fun i hi hn=>(k.block i (Nat.lt_of_lt_of_le hi h.size) (fun hg=>hn (hFG i hi hg))).trans (h.block i hi hn)⟩
theorem Kept.mono (h:Kept F a b) (hFG:∀ i,F i->G i):Kept G a b:=⟨h.os,h.tape,h.output,h.size,fun i hi hn=>h.block i hi (fun hf=>hn (hFG i hf))⟩
theorem Kept.drew (h:Kept F a b):Kept F a b.drew:=⟨h.os,h.tape,h.output,h.size,h.block⟩
theorem Kept.alloc (h:Kept F a b) (o:Obj):Kept F a (b.alloc o) :=
 ⟨h.os,h.tape,h.output,Nat.le_trans h.size (by simp),fun i hi hn=>(Below.heap_alloc b o i (Nat.lt_of_lt_of_le hi h.size)).trans (h.block i hi hn)⟩
theorem Kept.setCell (h:Kept F a b) {p:Addr} (hp:F p.block∨a.heap.size≤p.block) (u:Value):Kept F a (b.setCell p u) :=
 ⟨h.os,h.tape,h.output,by simpa [World.setCell] using h.size,fun i hi hn=>(Below.heap_setCell b p u i (fun e=>by
  rcases hp with hp|hp
  ·exact hn (by rw[e];exact hp)
  ·omega)).trans (h.block i hi hn)⟩
theorem Kept.below {B:Nat} (h:Kept F a b) (hB:∀ k,k<B->k<a.heap.size/\¬ F k):Below B a b:=⟨h.os,h.tape,h.output,h.size,fun k hk=>h.block k (hB k hk).1 (hB k hk).2⟩
theorem Kept.cell (h:Kept F a b) {p:Addr} (hp:p.block<a.heap.size) (hn:¬ F p.block):b.cell? p=a.cell? p:=World.cell?_of_block (h.block p.block hp hn)
theorem Kept.frozen (h:Kept F a b) {p:Addr} (hp:p.block<a.heap.size) (hn:¬ F p.block):b.frozen? p=a.frozen? p:=World.frozen?_of_block (h.block p.block hp hn)
end
def Whole (w:World) (g:Nat) (t:TypeId) (cs:Array Value):Prop:=w.heap[g]?=some (.cells cs t (0,0))
section
variable {F:Nat->Prop} {w w':World} {g:Nat} {t:TypeId} {cs:Array Value}
theorem Whole.lt (h:Whole w g t cs):g<w.heap.size:=by
 rcases Nat.lt_or_ge g w.heap.size with hlt|hge
 ·exact hlt
 ·unfold Whole at h;rw[Array.getElem?_eq_none hge] at h;cases h
theorem Whole.cell (h:Whole w g t cs) (i:Nat):w.cell? ⟨g,i,none⟩=cs[i]?:=cell_of_row w g i cs t (0,0) h
theorem Whole.frozen (h:Whole w g t cs) (i:Nat):w.frozen? ⟨g,i,none⟩=false:=by
 unfold Whole at h;unfold World.frozen?;simp only[h];simp
theorem Whole.new (w:World) (t:TypeId) (cs:Array Value):Whole (w.alloc (.cells cs t)) w.heap.size t cs:=heap_alloc_new w _
theorem Whole.kept (h:Whole w g t cs) (hk:Kept F w w') (hn:¬ F g):Whole w' g t cs:=(hk.block g h.lt hn).trans h
theorem Whole.alloc (h:Whole w g t cs) (o:Obj):Whole (w.alloc o) g t cs:=(Below.heap_alloc w o g h.lt).trans h
theorem Whole.far (h:Whole w g t cs) {p:Addr} (hp:g≠p.block) (u:Value):Whole (w.setCell p u) g t cs:=(Below.heap_setCell w p u g hp).trans h
end
def Row1 (w:World) (base:Nat) (e:TypeId) (v:Value) (xs:List Value):Prop:=w.ownsRow base e 1 v xs.length xs
section
variable {F:Nat->Prop} {w w':World} {base:Nat} {e:TypeId} {v:Value} {xs:List Value}
theorem Row1.nil (w:World) (base:Nat) (e:TypeId):Row1 w base e (.slice none 0 0) []:=World.ownsRow_nil _ _ _ _
theorem Row1.kept (h:Row1 w base e v xs) (hk:Kept F w w') (hn:∀ k,v.ownBlock=some k->¬ F k):Row1 w' base e v xs:=by
 refine⟨h.1,?_⟩;rcases h.2 with h'|⟨g,cap,cur,hv,hba,hh,hr⟩
 ·exact Or.inl h'
 ·refine Or.inr ⟨g,cap,cur,hv,hba,?_,hr⟩;have hlt:g<w.heap.size:=by
   rcases Nat.lt_or_ge g w.heap.size with h|h
   ·exact h
   ·rw[Array.getElem?_eq_none h] at hh;cases hh
  rw[hk.block g hlt (hn g (by rw[hv];rfl))]
  exact hh
end
end State
namespace Rx
structure Place where
 blk:Nat
 off:Nat
 cap:Nat
 nil:Bool
abbrev Env:=Nat->Place
def cellOf (e:Nat):Option Nat->Nat
 |none=>e
 |some q=>e*(q%1000000 / 1000)+q%1000
def renA (ρ:Env) (a:Addr):Addr:=⟨(ρ a.block).blk,(ρ a.block).off+cellOf a.off a.spot,none⟩
def renS (ρ:Env) (a:Addr) (n c:Nat):Value :=
 match a.spot with
 |none=>.slice (some (renA ρ a)) n c
 |some q =>
  if(ρ a.block).nil=true then .slice none n 0
  else if q / 1000000≠0/\(ρ a.block).cap≤a.off then .slice (some ⟨(ρ (q / 1000000-1)).blk,(ρ (q / 1000000-1)).off,none⟩) n 0
  else .slice (some (renA ρ a)) n ((ρ a.block).cap-a.off)
mutual
def ren (ρ:Env):Value->Value
 |.pointer (some a)=>.pointer (some (renA ρ a))
 |.slice (some a) n c=>renS ρ a n c
 |.map (some r)=>.map (some (ρ r).blk)
 |.chan (some r)=>.chan (some (ρ r).blk)
 |.agg ⟨l⟩=>.agg ⟨renL ρ l⟩
 |.tuple ⟨l⟩=>.tuple ⟨renL ρ l⟩
 |.func fn ⟨f⟩ ⟨c⟩=>.func fn ⟨renL ρ f⟩ ⟨renL ρ c⟩
 |.iface t v=>.iface t (ren ρ v)
 |v=>v
def renL (ρ:Env):List Value->List Value
 |[]=>[]
 |v::l=>ren ρ v::renL ρ l
end
section
variable {ρ ρ':Env}
theorem renL_eq (l:List Value):renL ρ l=l.map (ren ρ):=by
 induction l with
 |nil=>simp[renL]
 |cons v l ih=>simp[renL,ih]
theorem ren_agg (cs:Array Value):ren ρ (.agg cs)=.agg (cs.map (ren ρ)):=by
 obtain⟨l⟩:=cs;simp[ren,renL_eq]
theorem ren_tuple (cs:Array Value):ren ρ (.tuple cs)=.tuple (cs.map (ren ρ)):=by
 obtain⟨l⟩:=cs;simp[ren,renL_eq]
@[simp] theorem ren_int (k:IntKind) (n:Int):ren ρ (.int k n)=.int k n:=by simp[ren]
@[simp] theorem ren_bool (b:Bool):ren ρ (.bool b)=.bool b:=by simp[ren]
@[simp] theorem ren_string (s:ByteArray):ren ρ (.string s)=.string s:=by simp[ren]
end
mutual
def flat:Value->Bool
 |.pointer (some _)|.slice (some _) _ _|.map (some _)|.chan (some _)=>false
 |.agg ⟨l⟩=>flatL l
 |.tuple ⟨l⟩=>flatL l
 |.func _ ⟨f⟩ ⟨c⟩=>flatL f&&flatL c
 |.iface _ v=>flat v
 |_=>true
def flatL:List Value->Bool
 |[]=>true
 |v::l=>flat v&&flatL l
end
def tagB:Option Nat->Nat
 |none=>0
 |some q=>q / 1000000
mutual
def inb (n:Nat):Value->Bool
 |.pointer (some a)=>Nat.blt a.block n
 |.slice (some a) _ _=>Nat.blt a.block n&&Nat.ble (tagB a.spot) n
 |.map (some r)|.chan (some r)=>Nat.blt r n
 |.agg ⟨l⟩=>inbL n l
 |.tuple ⟨l⟩=>inbL n l
 |.func _ ⟨f⟩ ⟨c⟩=>inbL n f&&inbL n c
 |.iface _ v=>inb n v
 |_=>true
def inbL (n:Nat):List Value->Bool
 |[]=>true
 |v::l=>inb n v&&inbL n l
end
section
variable {ρ ρ':Env} {n m:Nat}
theorem renA_congr {a:Addr} (h:∀ i,i<n->ρ i=ρ' i) (ha:a.block<n):renA ρ a=renA ρ' a:=by
 unfold renA;rw[h _ ha]
theorem renS_congr {a:Addr} {k c:Nat} (h:∀ i,i<n->ρ i=ρ' i) (ha:a.block<n) (ht:tagB a.spot≤n):renS ρ a k c=renS ρ' a k c:=by
 unfold renS;rw[renA_congr h ha,h _ ha];cases hs:a.spot with
 |none=>rfl
 |some q =>
  rw[hs] at ht;simp only[tagB] at ht;simp only;split
  ·rfl
  ·split
   ·rename_i hq;rw[h (q / 1000000-1) (by omega)]
   ·rfl
mutual
theorem ren_congr (h:∀ i,i<n->ρ i=ρ' i):∀ v,inb n v=true->ren ρ v=ren ρ' v
 |.pointer (some a),hv=>by
  simp only[inb,Nat.blt_eq] at hv;simp only[ren,renA_congr h hv]
 |.pointer none,_=>by simp[ren]
 |.slice (some a) k c,hv=>by
  simp only[inb,Bool.and_eq_true,Nat.blt_eq,Nat.ble_eq] at hv;simp only[ren];exact renS_congr h hv.1 hv.2
 |.slice none _ _,_=>by simp[ren]
 |.map (some r),hv=>by simp only[inb,Nat.blt_eq] at hv;simp[ren,h _ hv]
 |.map none,_=>by simp[ren]
 |.chan (some r),hv=>by simp only[inb,Nat.blt_eq] at hv;simp[ren,h _ hv]
 |.chan none,_=>by simp[ren]
 |.agg ⟨l⟩,hv=>by simp only[inb] at hv;simp only[ren,renL_congr h l hv]
 |.tuple ⟨l⟩,hv=>by simp only[inb] at hv;simp only[ren,renL_congr h l hv]
 |.func fn ⟨f⟩ ⟨c⟩,hv=>by
  simp only[inb,Bool.and_eq_true] at hv;simp only[ren,renL_congr h f hv.1,renL_congr h c hv.2]
 |.iface t v,hv=>by simp only[inb] at hv;simp only[ren,ren_congr h v hv]
 |.int _ _,_=>by simp
 |.bool _,_=>by simp
 |.string _,_=>by simp
 |.float _ _,_=>by simp[ren]
 |.complex _ _ _,_=>by simp[ren]
 |.nilFunc,_=>by simp[ren]
 |.nilIface,_=>by simp[ren]
theorem renL_congr (h:∀ i,i<n->ρ i=ρ' i):∀ l,inbL n l=true->renL ρ l=renL ρ' l
 |[],_=>rfl
 |v::l,hv=>by
  simp only[inbL,Bool.and_eq_true] at hv;simp only[renL,ren_congr h v hv.1,renL_congr h l hv.2]
end
mutual
theorem flat_ren:∀ v,flat v=true->ren ρ v=v
 |.pointer (some a),hv=>by simp[flat] at hv
 |.pointer none,_=>by simp[ren]
 |.slice (some a) k c,hv=>by simp[flat] at hv
 |.slice none _ _,_=>by simp[ren]
 |.map (some r),hv=>by simp[flat] at hv
 |.map none,_=>by simp[ren]
 |.chan (some r),hv=>by simp[flat] at hv
 |.chan none,_=>by simp[ren]
 |.agg ⟨l⟩,hv=>by simp only[flat] at hv;simp only[ren,flat_renL l hv]
 |.tuple ⟨l⟩,hv=>by simp only[flat] at hv;simp only[ren,flat_renL l hv]
 |.func fn ⟨f⟩ ⟨c⟩,hv=>by
  simp only[flat,Bool.and_eq_true] at hv;simp only[ren,flat_renL f hv.1,flat_renL c hv.2]
 |.iface t v,hv=>by simp only[flat] at hv;simp only[ren,flat_ren v hv]
 |.int _ _,_=>by simp
 |.bool _,_=>by simp
 |.string _,_=>by simp
 |.float _ _,_=>by simp[ren]
 |.complex _ _ _,_=>by simp[ren]
 |.nilFunc,_=>by simp[ren]
 |.nilIface,_=>by simp[ren]
theorem flat_renL:∀ l,flatL l=true->renL ρ l=l
 |[],_=>rfl
 |v::l,hv=>by
  simp only[flatL,Bool.and_eq_true] at hv;simp only[renL,flat_ren v hv.1,flat_renL l hv.2]
end
mutual
theorem flat_inb:∀ v,flat v=true->inb n v=true
 |.pointer (some a),hv=>by simp[flat] at hv
 |.pointer none,_=>by simp[inb]
 |.slice (some a) k c,hv=>by simp[flat] at hv
 |.slice none _ _,_=>by simp[inb]
 |.map (some r),hv=>by simp[flat] at hv
 |.map none,_=>by simp[inb]
 |.chan (some r),hv=>by simp[flat] at hv
 |.chan none,_=>by simp[inb]
 |.agg ⟨l⟩,hv=>by simp only[flat] at hv;simp only[inb];exact flat_inbL l hv
 |.tuple ⟨l⟩,hv=>by simp only[flat] at hv;simp only[inb];exact flat_inbL l hv
 |.func fn ⟨f⟩ ⟨c⟩,hv=>by
  simp only[flat,Bool.and_eq_true] at hv;simp only[inb,Bool.and_eq_true];exact⟨flat_inbL f hv.1,flat_inbL c hv.2⟩
 |.iface t v,hv=>by simp only[flat] at hv;simp only[inb];exact flat_inb v hv
 |.int _ _,_=>by simp[inb]
 |.bool _,_=>by simp[inb]
 |.string _,_=>by simp[inb]
 |.float _ _,_=>by simp[inb]
 |.complex _ _ _,_=>by simp[inb]
 |.nilFunc,_=>by simp[inb]
 |.nilIface,_=>by simp[inb]
theorem flat_inbL:∀ l,flatL l=true->inbL n l=true
 |[],_=>rfl
 |v::l,hv=>by
  simp only[flatL,Bool.and_eq_true] at hv;simp only[inbL,Bool.and_eq_true];exact⟨flat_inb v hv.1,flat_inbL l hv.2⟩
end
mutual
theorem inb_mono (hm:n≤m):∀ v,inb n v=true->inb m v=true
 |.pointer (some a),hv=>by simp only[inb,Nat.blt_eq] at *;omega
 |.pointer none,_=>by simp[inb]
 |.slice (some a) k c,hv=>by simp only[inb,Bool.and_eq_true,Nat.blt_eq,Nat.ble_eq] at *;omega
 |.slice none _ _,_=>by simp[inb]
 |.map (some r),hv=>by simp only[inb,Nat.blt_eq] at *;omega
 |.map none,_=>by simp[inb]
 |.chan (some r),hv=>by simp only[inb,Nat.blt_eq] at *;omega
 |.chan none,_=>by simp[inb]
 |.agg ⟨l⟩,hv=>by simp only[inb] at *;exact inbL_mono hm l hv
 |.tuple ⟨l⟩,hv=>by simp only[inb] at *;exact inbL_mono hm l hv
 |.func fn ⟨f⟩ ⟨c⟩,hv=>by
  simp only[inb,Bool.and_eq_true] at *
  exact⟨inbL_mono hm f hv.1,inbL_mono hm c hv.2⟩
 |.iface t v,hv=>by simp only[inb] at *;exact inb_mono hm v hv
 |.int _ _,_=>by simp[inb]
 |.bool _,_=>by simp[inb]
 |.string _,_=>by simp[inb]
 |.float _ _,_=>by simp[inb]
 |.complex _ _ _,_=>by simp[inb]
 |.nilFunc,_=>by simp[inb]
 |.nilIface,_=>by simp[inb]
theorem inbL_mono (hm:n≤m):∀ l,inbL n l=true->inbL m l=true
 |[],_=>rfl
 |v::l,hv=>by
  simp only[inbL,Bool.and_eq_true] at *
  exact⟨inb_mono hm v hv.1,inbL_mono hm l hv.2⟩
end
theorem inbL_iff {l:List Value}:inbL n l=true↔∀ v∈l,inb n v=true:=by
 induction l with
 |nil=>simp[inbL]
 |cons v l ih=>simp[inbL,ih]
theorem flatL_iff {l:List Value}:flatL l=true↔∀ v∈l,flat v=true:=by
 induction l with
 |nil=>simp[flatL]
 |cons v l ih=>simp[flatL,ih]
theorem oneCell_ren:∀ v:Value,(ren ρ v).oneCell'=v.oneCell'
 |.pointer (some a)=>by simp[ren,Value.oneCell']
 |.pointer none=>by simp[ren]
 |.slice (some a) k c=>by
  simp only[ren,renS];cases a.spot with
  |none=>rfl
  |some q=>simp only;split<;>first|rfl|(split<;>rfl)
 |.slice none _ _=>by simp[ren]
 |.map (some r)=>by simp[ren,Value.oneCell']
 |.map none=>by simp[ren]
 |.chan (some r)=>by simp[ren,Value.oneCell']
 |.chan none=>by simp[ren]
 |.agg ⟨l⟩=>by simp[ren,Value.oneCell']
 |.tuple ⟨l⟩=>by simp[ren,Value.oneCell']
 |.func fn ⟨f⟩ ⟨c⟩=>by simp[ren,Value.oneCell']
 |.iface t v=>by simp[ren,Value.oneCell']
 |.int _ _=>by simp
 |.bool _=>by simp
 |.string _=>by simp
 |.float _ _=>by simp[ren]
 |.complex _ _ _=>by simp[ren]
 |.nilFunc=>by simp[ren]
 |.nilIface=>by simp[ren]
theorem renS_form (a:Addr) (k c:Nat):∃ A c',renS ρ a k c=.slice A k c':=by
 unfold renS;cases a.spot with
 |none=>exact⟨_,_,rfl⟩
 |some q=>simp only;split<;>first|exact⟨_,_,rfl⟩|(split<;>exact⟨_,_,rfl⟩)
theorem cells_ren (v:Value):(ren ρ v).cells=v.cells.map (ren ρ):=by
 cases v with
 |agg cs=>rw[ren_agg];rfl
 |slice a k c =>
  cases a with
  |none=>simp[ren,Value.cells]
  |some a =>
   obtain⟨A,c',h⟩:=renS_form (ρ:=ρ) a k c;simp[ren,h,Value.cells]
 |pointer a=>cases a<;>simp[ren,Value.cells]
 |map a=>cases a<;>simp[ren,Value.cells]
 |chan a=>cases a<;>simp[ren,Value.cells]
 |tuple cs=>obtain⟨l⟩:=cs;simp[ren,Value.cells]
 |func fn f c=>obtain⟨f⟩:=f;obtain⟨c⟩:=c;simp[ren,Value.cells]
 |iface t v=>simp[ren,Value.cells]
 |_=>simp[ren,Value.cells]
end
end Rx
namespace Rx
open Go.RowKit State
structure Col where
 i:List Int
 b:List Bool
 s:List ByteArray
def colI (l:List Int):Col:=⟨l,[],[]⟩
def colB (l:List Bool):Col:=⟨[],l,[]⟩
def colS (l:List ByteArray):Col:=⟨[],[],l⟩
def noCol:Col:=⟨[],[],[]⟩
def cellVal:Value->Col->Nat->Value
 |.int k _,c,e=>.int k (c.i.getD e 0)
 |.bool _,c,e=>.bool (c.b.getD e false)
 |.string _,c,e=>.string (c.s.getD e ⟨#[]⟩)
 |v,_,_=>v
def colOk:Value->Col->Nat->Prop
 |.int _ _,c,n=>c.i.length=n
 |.bool _,c,n=>c.b.length=n
 |.string _,c,n=>c.s.length=n
 |v,_,_=>flat v=true/\v.oneCell'=true
structure Row where
 tm:List Value
 n:Nat
 cols:List Col
structure RowIn (r:Row) (arr:Array Value) (o:Nat):Prop where
 len:r.cols.length=r.tm.length
 col:∀ (f:Nat) (t:Value) (c:Col),r.tm[f]?=some t->r.cols[f]?=some c->colOk t c r.n
 cell:∀ (f:Nat) (t:Value) (c:Col) (e:Nat),r.tm[f]?=some t->r.cols[f]?=some c->e<r.n->arr[o+(e*r.tm.length+f)]?=some (cellVal t c e)
abbrev SB (R:Type):=(TypeId×List Value) ⊕ (TypeId×Row) ⊕ Row ⊕ R
abbrev Hp (R:Type):=List (Option (SB R))
structure Res (R:Type) where
 H:R->Place->(Nat->Prop)->World->Prop
 keep:∀ x p F w w',H x p F w->(∀ k,F k->w'.heap[k]?=w.heap[k]?)->H x p F w'
 lt:∀ x p F w k,H x p F w->F k->k<w.heap.size
structure Ctx where
 w0:World
 U:Nat->Prop
 e0:Env
 n0:Nat
section
variable {R:Type} {D:Res R} {C:Ctx} {ρ ρ':Env} {i n:Nat} {F:Nat->Prop} {w w':World} {B:SB R}
def hold (D:Res R) (C:Ctx) (ρ:Env) (i:Nat) (F:Nat->Prop) (w:World):SB R->Prop
 |.inl (t,cs)=>(ρ i).off=0/\(∀ k,F k↔k=(ρ i).blk)/\w.heap[(ρ i).blk]?=some (.cells (cs.map (ren ρ)).toArray t (0,0))
 |.inr (.inl (t,r))=>(∀ k,F k↔((ρ i).nil=false/\k=(ρ i).blk))/\0<r.tm.length/\r.n≤(ρ i).cap/\(ρ i).cap≤maxLen/\((ρ i).nil=true->(ρ i).cap=0) /\
   ∃ arr,((ρ i).nil=false->w.heap[(ρ i).blk]?=some (.cells arr t (0,0))/\arr.size=(ρ i).off+(ρ i).cap*r.tm.length)/\RowIn r arr (ρ i).off
 |.inr (.inr (.inl r))=>(∀ k,¬ F k)/\0<r.tm.length/\r.n≤(ρ i).cap/\(ρ i).cap≤maxLen/\((ρ i).nil=true->(ρ i).cap=0) /\
   ∃ arr,((ρ i).nil=false->0<r.n->(ρ i).blk<C.w0.heap.size/\¬ C.U (ρ i).blk/\∃ t fz,C.w0.heap[(ρ i).blk]?=some (.cells arr t fz))/\RowIn r arr (ρ i).off
 |.inr (.inr (.inr x))=>D.H x (ρ i) F w
def inside (n:Nat):SB R->Prop
 |.inl (_,cs)=>inbL n cs=true
 |_=>True
theorem inside_mono {m:Nat} (hm:n≤m) (h:inside n B):inside m B:=by
 rcases B with⟨t,cs⟩|⟨t,r⟩|r|x<;>first|exact trivial|skip
 exact inbL_mono hm _ h
theorem hold_keep (h:hold D C ρ i F w B) (hk:∀ k,F k->w'.heap[k]?=w.heap[k]?):hold D C ρ i F w' B:=by
 rcases B with⟨t,cs⟩|⟨t,r⟩|r|x
 ·obtain⟨h1,h2,h3⟩:=h;exact⟨h1,h2,by rw[hk _ ((h2 _).2 rfl)];exact h3⟩
 ·obtain⟨h1,h2,h3,h4,h4',arr,h5,h6⟩:=h;exact⟨h1,h2,h3,h4,h4',arr,fun hn=>by rw[hk _ ((h1 _).2 ⟨hn,rfl⟩)];exact h5 hn,h6⟩
 ·exact h
 ·exact D.keep _ _ _ _ _ h hk
theorem hold_env (h:hold D C ρ i F w B) (hρ:∀ j,j<n->ρ' j=ρ j) (hi:i<n) (hs:inside n B):hold D C ρ' i F w B:=by
 have e:=hρ i hi;rcases B with⟨t,cs⟩|⟨t,r⟩|r|x
 ·simp only[hold,e] at *
  have:cs.map (ren ρ')=cs.map (ren ρ):=List.map_congr_left fun v hv=>(ren_congr (fun j hj=>(hρ j hj)) v (inbL_iff.1 hs v hv))
  rw[this];exact h
 ·simp only[hold,e] at *;exact h
 ·simp only[hold,e] at *;exact h
 ·simp only[hold,e] at *;exact h
structure HM (D:Res R) (C:Ctx) (ρ:Env) (ft:Nat->Nat->Prop) (h:Hp R) (w:World):Prop where
 at_:∀ i B,h[i]?=some (some B)->hold D C ρ i (ft i) w B/\inside h.length B
 lt:∀ i k,ft i k->k<w.heap.size
 fresh:∀ i k,ft i k->C.U k∨C.w0.heap.size≤k
 apart:∀ i j k,ft i k->ft j k->i=j
 some_:∀ i k,ft i k->∃ B,h[i]?=some (some B)
 kept:Kept C.U C.w0 w
variable {ft ft':Nat->Nat->Prop} {h h':Hp R}
theorem HM.same (hm:HM D C ρ ft h w) (hh:w'.heap=w.heap) (ho:w'.os=w.os) (ht:w'.tape=w.tape) (hu:w'.output=w.output):HM D C ρ ft h w' where
 at_ i B hi:=⟨hold_keep (hm.at_ i B hi).1 (fun k _=>by rw[hh]),(hm.at_ i B hi).2⟩
 lt i k hk:=by rw[hh];exact hm.lt i k hk
 fresh:=hm.fresh
 apart:=hm.apart
 some_:=hm.some_
 kept:=⟨ho.trans hm.kept.os,ht.trans hm.kept.tape,hu.trans hm.kept.output,by rw[hh];exact hm.kept.size,fun k hk hn=>by rw[hh];exact hm.kept.block k hk hn⟩
theorem HM.drew (hm:HM D C ρ ft h w):HM D C ρ ft h w.drew:=hm.same rfl rfl rfl rfl
theorem HM.step (hm:HM D C ρ ft h w) (S:Nat->Prop) (hk:Kept (fun k=>∃ i,S i/\ft i k) w w') (hρ:∀ i,i<h.length->ρ' i=ρ i) (hlen:h.length≤h'.length)
  (hnew:∀ i B,(i<h.length->S i)->h'[i]?=some (some B)->hold D C ρ' i (ft' i) w' B/\inside h'.length B)
  (hsame:∀ i,i<h.length->¬ S i->h'[i]?=h[i]?/\∀ k,ft' i k↔ft i k)
  (hin:∀ i k,(i<h.length->S i)->ft' i k->((∃ j,S j/\ft j k)∨w.heap.size≤k)/\k<w'.heap.size/\∃ B,h'[i]?=some (some B))
  (hap:∀ i j k,(i<h.length->S i)->(j<h.length->S j)->ft' i k->ft' j k->i=j):HM D C ρ' ft' h' w' where
 at_ i B hi:=by
  by_cases hs:i<h.length/\¬ S i
  ·obtain⟨hl,hn⟩:=hs;obtain⟨e,hf⟩:=hsame i hl hn;rw[e] at hi;obtain⟨h1,h2⟩:=hm.at_ i B hi;refine⟨?_,inside_mono hlen h2⟩;have h3:=hold_env h1 hρ hl h2;have h4:hold D C ρ' i (ft i) w' B:=hold_keep h3 fun k hk'=>hk.block k (hm.lt i k hk') (fun⟨j,hj,hjk⟩=>hn (by rw[hm.apart i j k hk' hjk];exact hj))
   have:ft' i=ft i:=funext fun k=>propext (hf k)
   rw[this];exact h4
  ·exact hnew i B (fun hl=>Classical.byContradiction fun hn=>hs ⟨hl,hn⟩) hi
 lt i k hi:=by
  by_cases hs:i<h.length/\¬ S i
  ·exact Nat.lt_of_lt_of_le (hm.lt i k (((hsame i hs.1 hs.2).2 k).1 hi)) hk.size
  ·exact(hin i k (fun hl=>Classical.byContradiction fun hn=>hs ⟨hl,hn⟩) hi).2.1
 fresh i k hi:=by
  by_cases hs:i<h.length/\¬ S i
  ·exact hm.fresh i k (((hsame i hs.1 hs.2).2 k).1 hi)
  ·rcases(hin i k (fun hl=>Classical.byContradiction fun hn=>hs ⟨hl,hn⟩) hi).1 with⟨j,_,hj⟩|hge
   ·exact hm.fresh j k hj
   ·exact Or.inr (Nat.le_trans hm.kept.size hge)
 apart i j k hi hj:=by
  by_cases hs:i<h.length/\¬ S i<;>by_cases hs':j<h.length/\¬ S j
  ·exact hm.apart i j k (((hsame i hs.1 hs.2).2 k).1 hi) (((hsame j hs'.1 hs'.2).2 k).1 hj)
  ·have hi':=((hsame i hs.1 hs.2).2 k).1 hi;rcases(hin j k (fun hl=>Classical.byContradiction fun hn=>hs' ⟨hl,hn⟩) hj).1 with⟨l,hl,hlk⟩|hge
   ·exact absurd hl (by rw[← hm.apart i l k hi' hlk];exact hs.2)
   ·have:=hm.lt i k hi';omega
  ·have hj':=((hsame j hs'.1 hs'.2).2 k).1 hj;rcases(hin i k (fun hl=>Classical.byContradiction fun hn=>hs ⟨hl,hn⟩) hi).1 with⟨l,hl,hlk⟩|hge
   ·exact absurd hl (by rw[← hm.apart j l k hj' hlk];exact hs'.2)
   ·have:=hm.lt j k hj';omega
  ·exact hap i j k (fun hl=>Classical.byContradiction fun hn=>hs ⟨hl,hn⟩) (fun hl=>Classical.byContradiction fun hn=>hs' ⟨hl,hn⟩) hi hj
 some_ i k hi:=by
  by_cases hs:i<h.length/\¬ S i
  ·obtain⟨e,hf⟩:=hsame i hs.1 hs.2;rw[e];exact hm.some_ i k ((hf k).1 hi)
  ·exact(hin i k (fun hl=>Classical.byContradiction fun hn=>hs ⟨hl,hn⟩) hi).2.2
 kept:=hm.kept.trans hk fun k hk' ⟨j,_,hj⟩=>by
  rcases hm.fresh j k hj with hu|hge
  ·exact hu
  ·omega
def upd {α:Type} (f:Nat->α) (n:Nat) (a:α):Nat->α:=fun i=>if i=n then a else f i
theorem upd_same {α:Type} (f:Nat->α) (n:Nat) (a:α):upd f n a n=a:=by simp[upd]
theorem upd_lt {α:Type} (f:Nat->α) (n:Nat) (a:α) {i:Nat} (hi:i<n):upd f n a i=f i:=by simp[upd,Nat.ne_of_lt hi]
theorem upd_ne {α:Type} (f:Nat->α) (n:Nat) (a:α) {i:Nat} (hi:i≠n):upd f n a i=f i:=by simp[upd,hi]
theorem HM.push (hm:HM D C ρ ft h w) (p:Place) (o:Obj) (hp:p.blk=w.heap.size) (B:SB R) (hB:hold D C (upd ρ h.length p) h.length (fun k=>k=w.heap.size) (w.alloc o) B) (hs:inside (h.length+1) B) :
  HM D C (upd ρ h.length p) (upd ft h.length (fun k=>k=w.heap.size)) (h++[some B]) (w.alloc o):=by
 refine hm.step (fun _=>False) ((Kept.refl _ _).alloc _) (fun i hi=>upd_lt _ _ _ hi) (by simp) ?_ ?_ ?_ ?_
 ·intro i B' hi hB';have hge:h.length≤i:=Nat.le_of_not_lt hi;rw[List.getElem?_append_right hge] at hB';have:i=h.length:=by
   rcases Nat.lt_or_ge h.length i with hlt|hle
   ·rw[List.getElem?_eq_none (by simp;omega)] at hB';cases hB'
   ·omega
  subst this;simp at hB';subst hB';rw[upd_same]
  simpa using⟨hB,hs⟩
 ·intro i hi _;exact⟨List.getElem?_append_left hi,fun k=>by rw[upd_lt _ _ _ hi]⟩
 ·intro i k hi hk;have hge:h.length≤i:=Nat.le_of_not_lt hi
  by_cases he:i=h.length
  ·subst he;rw[upd_same] at hk;subst hk;exact⟨Or.inr (Nat.le_refl _),by simp,B,by simp⟩
  ·rw[upd_ne _ _ _ he] at hk;obtain⟨B',hB'⟩:=hm.some_ i k hk;rw[List.getElem?_eq_none hge] at hB';cases hB'
 ·intro i j k hi hj hki hkj;have hgi:h.length≤i:=Nat.le_of_not_lt hi;have hgj:h.length≤j:=Nat.le_of_not_lt hj;have key:∀ l,h.length≤l->upd ft h.length (fun k=>k=w.heap.size) l k->l=h.length:=fun l hl hlk=>by
   refine Classical.byContradiction fun he=>?_
   rw[upd_ne _ _ _ he] at hlk;obtain⟨B',hB'⟩:=hm.some_ l k hlk;rw[List.getElem?_eq_none hl] at hB';cases hB'
  rw[key i hgi hki,key j hgj hkj]
theorem HM.pushNone (hm:HM D C ρ ft h w) (p:Place):HM D C (upd ρ h.length p) ft (h++[none]) w:=by
 refine hm.step (fun _=>False) (Kept.refl _ _) (fun i hi=>upd_lt _ _ _ hi) (by simp) ?_ ?_ ?_ ?_
 ·intro i B' hi hB';have hge:h.length≤i:=Nat.le_of_not_lt hi;rw[List.getElem?_append_right hge] at hB';rcases Nat.lt_or_ge h.length i with hlt|hle
  ·rw[List.getElem?_eq_none (by simp;omega)] at hB';cases hB'
  ·rw[show i-h.length=0 by omega] at hB';simp at hB'
 ·intro i hi _;exact⟨List.getElem?_append_left hi,fun k=>Iff.rfl⟩
 ·intro i k hi hk;obtain⟨B',hB'⟩:=hm.some_ i k hk;have hlt:=(List.getElem?_eq_some_iff.1 hB').1;exact absurd hlt hi
 ·intro i j k hi hj hki hkj;exact hm.apart i j k hki hkj
theorem HM.put (hm:HM D C ρ ft h w) {i:Nat} {B0:SB R} (hi:h[i]?=some (some B0)) (hk:Kept (ft i) w w') (B:SB R) (F:Nat->Prop) (hB:hold D C ρ i F w' B) (hs:inside h.length B)
  (hF:∀ k,F k->(ft i k∨w.heap.size≤k)/\k<w'.heap.size):HM D C ρ (upd ft i F) (h.set i (some B)) w':=by
 have hl:i<h.length:=(List.getElem?_eq_some_iff.1 hi).1;refine hm.step (fun j=>j=i) (hk.mono fun k hk=>⟨i,rfl,hk⟩) (fun _ _=>rfl) (by simp) ?_ ?_ ?_ ?_
 ·intro j B' hj hB'
  by_cases he:j=i
  ·subst he;rw[List.getElem?_set_self hl] at hB';injection hB' with hB';injection hB' with hB'
   subst hB';rw[upd_same];exact⟨hB,by rw[List.length_set];exact hs⟩
  ·have hlt:¬ j<h.length:=fun hlt=>he (hj hlt)
   rw[List.getElem?_eq_none (by rw[List.length_set];omega)] at hB'
   cases hB'
 ·intro j hj hn;refine⟨List.getElem?_set_ne (fun e=>hn e.symm),fun k=>by rw[upd_ne _ _ _ hn]⟩
 ·intro j k hj hk'
  by_cases he:j=i
  ·subst he;rw[upd_same] at hk';obtain⟨h1,h2⟩:=hF k hk';exact⟨h1.imp (fun h=>⟨j,rfl,h⟩) id,h2,B,List.getElem?_set_self hl⟩
  ·rw[upd_ne _ _ _ he] at hk';obtain⟨B',hB'⟩:=hm.some_ j k hk';have hlt:=(List.getElem?_eq_some_iff.1 hB').1;exact absurd (hj hlt) he
 ·intro a b k ha hb hka hkb;have key:∀ l,(l<h.length->l=i)->upd ft i F l k->l=i:=fun l hl' hlk=>by
   refine Classical.byContradiction fun he=>?_
   rw[upd_ne _ _ _ he] at hlk;obtain⟨B',hB'⟩:=hm.some_ l k hlk;exact he (hl' (List.getElem?_eq_some_iff.1 hB').1)
  rw[key a ha hka,key b hb hkb]
theorem HM.drop (hm:HM D C ρ ft h w) (i:Nat):HM D C ρ (upd ft i (fun _=>False)) (h.set i none) w:=by
 refine hm.step (fun j=>j=i) (Kept.refl _ _) (fun _ _=>rfl) (by simp) ?_ ?_ ?_ ?_
 ·intro j B' hj hB'
  by_cases he:j=i
  ·subst he
   by_cases hl:j<h.length
   ·rw[List.getElem?_set_self hl] at hB';injection hB' with hB'
    cases hB'
   ·rw[List.getElem?_eq_none (by rw[List.length_set];omega)] at hB'
    cases hB'
  ·have hlt:¬ j<h.length:=fun hlt=>he (hj hlt)
   rw[List.getElem?_eq_none (by rw[List.length_set];omega)] at hB'
   cases hB'
 ·intro j hj hn;refine⟨List.getElem?_set_ne (fun e=>hn e.symm),fun k=>by rw[upd_ne _ _ _ hn]⟩
 ·intro j k hj hk'
  by_cases he:j=i
  ·subst he;rw[upd_same] at hk';exact hk'.elim
  ·rw[upd_ne _ _ _ he] at hk';obtain⟨B',hB'⟩:=hm.some_ j k hk';have hlt:=(List.getElem?_eq_some_iff.1 hB').1;exact absurd (hj hlt) he
 ·intro a b k ha hb hka hkb;have key:∀ l,upd ft i (fun _=>False) l k->ft l k:=fun l hlk=>by
   by_cases he:l=i
   ·subst he;rw[upd_same] at hlk;exact hlk.elim
   ·rw[upd_ne _ _ _ he] at hlk;exact hlk
  exact hm.apart a b k (key a hka) (key b hkb)
end
end Rx
namespace Rx
open Go.RowKit State
structure SS (R:Type) where
 tm:List (Option Value)
 li:List (Nat×Bool)
 hp:Hp R
structure Out (R:Type) where
 vc:Prop
 v:Value
 lit:Option Bool
 hp:Hp R
 rd:List (Nat×Nat)
 wr:List (Nat×Nat)
structure TM (ρ:Env) (n:Nat) (tm:List (Option Value)) (a:Act):Prop where
 size:a.tmps.size=tm.length
 val:∀ (t:Nat) (v:Value),tm[t]?=some (some v)->a.tmps[t]?=some (ren ρ v)/\inb n v=true
def LI (li:List (Nat×Bool)) (tm:List (Option Value)):Prop:=∀ (t:Nat) (b:Bool),(t,b)∈li->tm[t]?=some (some (.bool b))
def ev (tm:List (Option Value)):Operand->Option Value
 |.tmp t=>match tm[t]? with
  |some (some v)=>some v
  |_=>none
 |.const v=>if flat v then some v else none
 |.func f=>some (.func (.func f) #[] #[])
 |.global _=>none
def look (li:List (Nat×Bool)) (t:Nat):Option Bool :=
 match li with
 |[]=>none
 |(u,b)::l=>if Nat.beq u t then some b else look l t
def litOf (li:List (Nat×Bool)):Operand->Option Bool
 |.tmp t=>look li t
 |.const (.bool b)=>some b
 |_=>none
section
variable {R:Type} {D:Res R} {P:Program}
theorem look_mem {li:List (Nat×Bool)} {t:Nat} {b:Bool} (h:look li t=some b):(t,b)∈li:=by
 induction li with
 |nil=>cases h
 |cons p l ih =>
  obtain⟨u,c⟩:=p;simp only[look] at h;split at h
  ·rename_i e;have e:=Nat.eq_of_beq_eq_true e;injection h with h
   subst h;subst e;exact List.mem_cons_self
  ·exact List.mem_cons_of_mem _ (ih h)
theorem ev_eval {ρ:Env} {n:Nat} {tm:List (Option Value)} {a:Act} {x:Operand} {v:Value} (ht:TM ρ n tm a) (h:ev tm x=some v):a.eval x=ren ρ v/\inb n v=true:=by
 cases x with
 |tmp t =>
  simp only[ev] at h;split at h
  ·rename_i u hu;injection h with h
   subst h;obtain⟨h1,h2⟩:=ht.val t u hu;exact⟨by simp[Act.eval,h1],h2⟩
  ·cases h
 |const u =>
  simp only[ev] at h;split at h
  ·rename_i hf;injection h with h
   subst h;exact⟨by simp[Act.eval,flat_ren u hf],flat_inb u hf⟩
  ·cases h
 |func f =>
  simp only[ev] at h;injection h with h
  subst h;exact⟨by simp[Act.eval,ren,renL],by simp[inb,inbL]⟩
 |global g=>cases h
theorem lit_ev {li:List (Nat×Bool)} {tm:List (Option Value)} {x:Operand} {b:Bool} (hl:LI li tm) (h:litOf li x=some b):ev tm x=some (.bool b):=by
 cases x with
 |tmp t =>
  have:=hl t b (look_mem h);simp[ev,this]
 |const u =>
  cases u<;>simp only[litOf] at h<;>try cases h
  simp[ev,flat]
 |func f=>cases h
 |global g=>cases h
structure OpOk (D:Res R) (P:Program) (o:Oper) (σ:SS R) (x:Out R):Prop where
 run:∀ C ρ ft a w K Q,TM ρ σ.hp.length σ.tm a->LI σ.li σ.tm->HM D C ρ ft σ.hp w->x.vc ->
  (∀ ρ' ft' w',(∀ i,i<σ.hp.length->ρ' i=ρ i)->HM D C ρ' ft' x.hp w'->K (a.put o.dst (ren ρ' x.v)) w')->o.wp P a w K Q
 len:σ.hp.length≤x.hp.length
 lit:LI σ.li σ.tm->∀ b,x.lit=some b->x.v=.bool b
theorem wp_value {o:Oper} {a:Act} {w w':World} {v:Value} {K:Act->World->Prop} {Q:Exit->Act->World->Prop} (h:(execOp a.eval o).run P w=.ok (.value v) w') (hk:K (a.put o.dst v) w'):o.wp P a w K Q:=by
 simp only[Oper.wp,h,Oper.upon];exact hk
theorem wp_skip' {o:Oper} {a:Act} {w w':World} {K:Act->World->Prop} {Q:Exit->Act->World->Prop} (h:(execOp a.eval o).run P w=.ok .skip w') (hk:K (a.put o.dst undef) w'):o.wp P a w K Q:=by
 simp only[Oper.wp,h,Oper.upon];exact hk
def quietOut (σ:SS R) (vc:Prop) (v:Value) (lit:Option Bool) (rd:List (Nat×Nat)):Out R:=⟨vc,v,lit,σ.hp,rd,[]⟩
theorem quiet_ok {o:Oper} {σ:SS R} {vc:Prop} {v:Value} {lit:Option Bool} {rd:List (Nat×Nat)}
  (h:∀ C ρ ft a w,TM ρ σ.hp.length σ.tm a->LI σ.li σ.tm->HM D C ρ ft σ.hp w->vc->(execOp a.eval o).run P w=.ok (.value (ren ρ v)) w)
  (hl:LI σ.li σ.tm->∀ b,lit=some b->v=.bool b):OpOk D P o σ (quietOut σ vc v lit rd) where
 run C ρ ft a w K Q ht hli hm hv hk:=wp_value (h C ρ ft a w ht hli hm hv) (hk ρ ft w (fun _ _=>rfl) hm)
 len:=Nat.le_refl _
 lit:=hl
def pureRun {α:Type} (P:Program):Sem α->Option α
 |.pure a=>some a
 |.program k=>pureRun P (k P)
 |.mark _ k=>pureRun P k
 |_=>none
theorem pureRun_run {α:Type} {P:Program} (s:Sem α) {a:α} (h:pureRun P s=some a) (w:World):s.run P w=.ok a w:=by
 induction s generalizing w with
 |pure b=>simp only[pureRun] at h;injection h with h;subst h;rfl
 |program k ih=>simp only[pureRun] at h;simp only[Sem.run];exact ih P h w
 |mark m k ih=>simp only[pureRun] at h;simp only[Sem.run];exact ih h w
 |_=>simp only[pureRun] at h;cases h
def evf (tm:List (Option Value)) (x:Operand):Value:=(ev tm x).getD undef
def flatOp (tm:List (Option Value)) (x:Operand):Bool :=
 match ev tm x with
 |some v=>flat v
 |none=>false
def flatAll (tm:List (Option Value)):List Operand->Bool
 |[]=>true
 |x::l=>flatOp tm x&&flatAll tm l
theorem flatAll_mem {tm:List (Option Value)} {l:List Operand} (h:flatAll tm l=true) {x:Operand} (hx:x∈l):∃ v,ev tm x=some v/\flat v=true:=by
 induction l with
 |nil=>cases hx
 |cons y l ih =>
  simp only[flatAll,Bool.and_eq_true] at h;rcases List.mem_cons.1 hx with rfl|hx
  ·have h1:=h.1;unfold flatOp at h1;split at h1
   ·exact⟨_,by assumption,h1⟩
   ·cases h1
  ·exact ih h.2 hx
def noSelect:Op->Bool
 |.select _ _=>false
 |_=>true
def opPure (P:Program) (σ:SS R) (o:Oper):Option (Out R) :=
 if noSelect o.op&&flatAll σ.tm o.op.operands.toList then
  match pureRun P (execOp (evf σ.tm) o) with
  |some (.value v)=>if flat v then some (quietOut σ True v none []) else none
  |_=>none
 else none
theorem opPure_ok {σ:SS R} {o:Oper} {x:Out R} (h:opPure P σ o=some x):OpOk D P o σ x:=by
 unfold opPure at h;split at h
 ·rename_i hc;simp only[Bool.and_eq_true] at hc;split at h
  ·rename_i v hp;split at h
   ·rename_i hf;injection h with h
    subst h;refine quiet_ok (fun C ρ ft a w ht hli hm _=>?_) (fun _ b hb=>by cases hb)
    have e:execOp a.eval o=execOp (evf σ.tm) o:=by
     refine execOp_congr o (fun cs b hs=>?_) (fun y hy=>?_)
     ·rw[hs] at hc;simp[noSelect] at hc
     ·obtain⟨u,hu,hfu⟩:=flatAll_mem hc.2 (Array.mem_toList_iff.2 hy);rw[(ev_eval ht hu).1,flat_ren u hfu];simp[evf,hu]
    rw[e,pureRun_run _ hp w,flat_ren v hf]
   ·cases h
  ·cases h
 ·cases h
def opMove (σ:SS R) (x:Operand):Option (Out R) :=
 match ev σ.tm x with
 |some v=>some (quietOut σ True v (litOf σ.li x) [])
 |none=>none
theorem opMove_ok {σ:SS R} {o:Oper} {y:Operand} {x:Out R} (ho:o.op=.move y∨o.op=.assign y) (h:opMove σ y=some x):OpOk D P o σ x:=by
 unfold opMove at h;split at h
 ·rename_i v hv;injection h with h
  subst h;refine quiet_ok (fun C ρ ft a w ht hli hm _=>?_) (fun hli b hb=>?_)
  ·rw[← (ev_eval ht hv).1];rcases ho with ho|ho<;>simp[execOp,ho]
  ·have:=lit_ev hli hb;rw[hv] at this;exact Option.some.inj this
 ·cases h
def opPick (σ:SS R) (c y z:Operand):Option (Out R) :=
 match litOf σ.li c with
 |some true=>opMove σ y
 |some false=>opMove σ z
 |none =>
  match ev σ.tm c,ev σ.tm y,ev σ.tm z with
  |some (.bool c),some (.bool y),some (.bool z)=>some (quietOut σ True (.bool (if c then y else z)) none [])
  |_,_,_=>none
theorem opPick_ok {σ:SS R} {o:Oper} {c y z:Operand} {x:Out R} (ho:o.op=.pick c y z) (h:opPick σ c y z=some x):OpOk D P o σ x:=by
 unfold opPick at h;split at h
 ·rename_i hl;unfold opMove at h;split at h
  ·rename_i v hv;injection h with h
   subst h;refine quiet_ok (fun C ρ ft a w ht hli hm _=>?_) (fun hli b hb=>?_)
   ·have h1:=(ev_eval ht (lit_ev hli hl)).1;rw[← (ev_eval ht hv).1];simp[execOp,ho,h1,asBool]
   ·have:=lit_ev hli hb;rw[hv] at this;exact Option.some.inj this
  ·cases h
 ·rename_i hl;unfold opMove at h;split at h
  ·rename_i v hv;injection h with h
   subst h;refine quiet_ok (fun C ρ ft a w ht hli hm _=>?_) (fun hli b hb=>?_)
   ·have h1:=(ev_eval ht (lit_ev hli hl)).1;rw[← (ev_eval ht hv).1];simp[execOp,ho,h1,asBool]
   ·have:=lit_ev hli hb;rw[hv] at this;exact Option.some.inj this
  ·cases h
 ·split at h
  ·rename_i c' y' z' hc hy hz;injection h with h
   subst h;refine quiet_ok (fun C ρ ft a w ht hli hm _=>?_) (fun hli b hb=>by cases hb)
   have h1:=(ev_eval ht hc).1;have h2:=(ev_eval ht hy).1;have h3:=(ev_eval ht hz).1;simp[execOp,ho,h1,h2,h3,asBool]
  ·cases h
def opNot (σ:SS R) (y:Operand):Option (Out R) :=
 match ev σ.tm y with
 |some (.bool b)=>some (quietOut σ True (.bool (!b)) ((litOf σ.li y).map (!·)) [])
 |_=>none
theorem opNot_ok {σ:SS R} {o:Oper} {t:TypeId} {y:Operand} {x:Out R} (ho:o.op=.unOp .not t y) (h:opNot σ y=some x):OpOk D P o σ x:=by
 unfold opNot at h;split at h
 ·rename_i b hb;injection h with h
  subst h;refine quiet_ok (fun C ρ ft a w ht hli hm _=>?_) (fun hli c hc=>?_)
  ·have h1:=(ev_eval ht hb).1;simp[execOp,ho,h1,Op.unary]
  ·cases hl:litOf σ.li y with
   |none=>rw[hl] at hc;cases hc
   |some d =>
    have:=lit_ev hli hl;rw[hb] at this;injection this with this;injection this with this
    subst this;rw[hl] at hc;injection hc with hc
    subst hc
    rfl
 ·cases h
def opNil (σ:SS R) (y:Operand):Option (Out R) :=
 match ev σ.tm y with
 |some (.pointer (some p))=>some (quietOut σ True (.pointer (some p)) none [])
 |some (.func (.func f) xs ys)=>some (quietOut σ True (.func (.func f) xs ys) none [])
 |_=>none
theorem opNil_ok {σ:SS R} {o:Oper} {y:Operand} {x:Out R} (ho:o.op=.nilCheck y) (h:opNil σ y=some x):OpOk D P o σ x:=by
 unfold opNil at h;split at h
 ·rename_i p hp;injection h with h
  subst h;refine quiet_ok (fun C ρ ft a w ht hli hm _=>?_) (fun hli c hc=>by cases hc)
  have h1:=(ev_eval ht hp).1;simp only[ren] at h1;simp[execOp,ho,h1,ren]
 ·rename_i f xs ys hp;injection h with h
  subst h;refine quiet_ok (fun C ρ ft a w ht hli hm _=>?_) (fun hli c hc=>by cases hc)
  have h1:=(ev_eval ht hp).1;obtain⟨xs⟩:=xs;obtain⟨ys⟩:=ys;simp only[ren] at h1;simp[execOp,ho,h1,ren]
 ·cases h
def opExtract (σ:SS R) (y:Operand) (k:Nat):Option (Out R) :=
 match ev σ.tm y with
 |some (.tuple ⟨l⟩)=>match l[k]? with
  |some v=>some (quietOut σ True v none [])
  |none=>none
 |_=>none
theorem opExtract_ok {σ:SS R} {o:Oper} {y:Operand} {k:Nat} {x:Out R} (ho:o.op=.extract y k) (h:opExtract σ y k=some x):OpOk D P o σ x:=by
 unfold opExtract at h;split at h
 ·rename_i l hl;split at h
  ·rename_i v hv;injection h with h
   subst h;refine quiet_ok (fun C ρ ft a w ht hli hm _=>?_) (fun hli c hc=>by cases hc)
   have h1:=(ev_eval ht hl).1;rw[ren_tuple] at h1;simp[execOp,ho,h1,Instr.extract,hv]
  ·cases h
 ·cases h
def nilKind (P:Program) (t:TypeId):Value->Value->Option Bool
 |.pointer p,.pointer none|.pointer none,.pointer p =>
  match P.underlying t with
  |some (.pointer _)=>some (match p with|none=>true|some _=>false)
  |_=>none
 |.slice none _ _,.slice none _ _ =>
  match P.underlying t with
  |some (.slice _)=>some true
  |_=>none
 |.slice (some ⟨_,_,none⟩) _ _,.slice none _ _ =>
  match P.underlying t with
  |some (.slice _)=>some false
  |_=>none
 |.func _ _ _,.nilFunc =>
  match P.underlying t with
  |some (.func _ _ _)=>some false
  |_=>none
 |.nilFunc,.nilFunc =>
  match P.underlying t with
  |some (.func _ _ _)=>some true
  |_=>none
 |_,_=>none
def opEqNil (P:Program) (σ:SS R) (neg:Bool) (t:TypeId) (y z:Operand):Option (Out R) :=
 match ev σ.tm y,ev σ.tm z with
 |some u,some v=>match nilKind P t u v with
  |some b=>some (quietOut σ True (.bool (Bool.xor b neg)) (some (Bool.xor b neg)) [])
  |none=>none
 |_,_=>none
theorem nilKind_run {t:TypeId} {u v:Value} {b:Bool} (h:nilKind P t u v=some b) (ρ:Env) (w:World):(Op.equal t (ren ρ u) (ren ρ v)).run P w=.ok b w:=by
 have key:∀ (d:Nat),(Op.equalIn (d+1) t (ren ρ u) (ren ρ v)).run P w=.ok b w:=by
  intro d;unfold nilKind at h;split at h
  ·rename_i p;split at h
   ·rename_i hu;injection h with h
    subst h;cases p<;>simp[Op.equalIn,run_underlying hu,ren]
   ·cases h
  ·rename_i p _;split at h
   ·rename_i hu;injection h with h
    subst h;cases p<;>simp[Op.equalIn,run_underlying hu,ren]
   ·cases h
  ·split at h
   ·rename_i hu;injection h with h
    subst h;simp[Op.equalIn,run_underlying hu,ren]
   ·cases h
  ·split at h
   ·rename_i hu;injection h with h
    subst h;simp[Op.equalIn,run_underlying hu,ren,renS]
   ·cases h
  ·rename_i fn f c;split at h
   ·rename_i hu;injection h with h
    subst h;obtain⟨f⟩:=f;obtain⟨c⟩:=c;simp[Op.equalIn,run_underlying hu,ren]
   ·cases h
  ·split at h
   ·rename_i hu;injection h with h
    subst h;simp[Op.equalIn,run_underlying hu,ren]
   ·cases h
  ·cases h
 unfold Op.equal;exact key 9999
theorem opEqNil_ok {σ:SS R} {o:Oper} {neg:Bool} {t t':TypeId} {y z:Operand} {x:Out R} (ho:o.op=.binOp (if neg then .neq else .eql) t y z t') (h:opEqNil P σ neg t y z=some x):OpOk D P o σ x:=by
 unfold opEqNil at h;split at h
 ·rename_i u v hu hv;split at h
  ·rename_i b hb;injection h with h
   subst h;refine quiet_ok (fun C ρ ft a w ht hli hm _=>?_) (fun hli c hc=>by injection hc with hc;rw[hc])
   have h1:=(ev_eval ht hu).1;have h2:=(ev_eval ht hv).1;have hr:=nilKind_run hb ρ w;have hg:∀ op,(eqGuard op t y z (ren ρ u) (ren ρ v)).run P w=.ok () w:=by
    intro op;unfold nilKind at hb;split at hb
    all_goals first
     |cases hb
     |skip
    ·rename_i p;cases p<;>cases op<;>simp[eqGuard,ren]
    ·rename_i p _;cases p<;>cases op<;>simp[eqGuard,ren]
    ·cases op<;>simp[eqGuard,ren]
    ·cases op<;>simp[eqGuard,ren,renS]
    ·rename_i fn f c;obtain⟨f⟩:=f;obtain⟨c⟩:=c;cases op<;>simp[eqGuard,ren]
    ·cases op<;>simp[eqGuard,ren]
   have hb2:∀ op,(op=.eql∨op=.neq)->(binOp op t (ren ρ u) (ren ρ v)).run P w=.ok (.bool (Bool.xor b (op==.neq))) w:=by
    intro op hop;have q1:(BinOp.eql==BinOp.neq)=false:=by decide
    have q2:(BinOp.neq==BinOp.neq)=true:=by decide
    unfold nilKind at hb;rcases hop with rfl|rfl
    all_goals
     split at hb
     all_goals first
      |cases hb
      |skip
     ·rename_i p;cases p<;>simp[binOp,ren] at hr ⊢<;>simp[hr,q1,q2]
     ·rename_i p _;cases p<;>simp[binOp,ren] at hr ⊢<;>simp[hr,q1,q2]
     ·simp[binOp,ren] at hr ⊢;simp[hr,q1,q2]
     ·simp[binOp,ren,renS] at hr ⊢;simp[hr,q1,q2]
     ·rename_i fn f c;obtain⟨f⟩:=f;obtain⟨c⟩:=c;simp[binOp,ren] at hr ⊢;simp[hr,q1,q2]
     ·simp[binOp,ren] at hr ⊢;simp[hr,q1,q2]
   cases neg with
   |false =>
    have h3:=hb2 .eql (Or.inl rfl);have h4:=hg .eql;simp only[Bool.false_eq_true,if_false] at ho;have q1:(BinOp.eql==BinOp.neq)=false:=by decide
    simp[execOp,ho,h1,h2,h3,h4,q1]
   |true =>
    have h3:=hb2 .neq (Or.inr rfl);have h4:=hg .neq;simp only[if_true] at ho;simp[execOp,ho,h1,h2,h3,h4]
  ·cases h
 ·cases h
def opEqPtr (P:Program) (σ:SS R) (own:Option (Option (SB R))->Bool) (neg:Bool) (t:TypeId) (y z:Operand):Option (Out R) :=
 match ev σ.tm y,ev σ.tm z with
 |some (.pointer (some ⟨i,0,none⟩)),some (.pointer (some ⟨j,0,none⟩)) =>
  match P.underlying t with
  |some (.pointer el)=>match P.info? el with
   |some inf =>
    if Nat.blt 0 inf.size then
     match Nat.beq i j with
     |true=>some (quietOut σ True (.bool (Bool.xor true neg)) (some (Bool.xor true neg)) [])
     |false=>if own σ.hp[i]?&&own σ.hp[j]? then some (quietOut σ True (.bool (Bool.xor false neg)) (some (Bool.xor false neg)) []) else none
    else none
   |none=>none
  |_=>none
 |_,_=>none
theorem opEqPtr_ok {own:Option (Option (SB R))->Bool} (hown:∀ {C:Ctx} {ρ:Env} {ft:Nat->Nat->Prop} {h:Hp R} {w:World} {i:Nat},HM D C ρ ft h w->own h[i]?=true->ft i (ρ i).blk/\∃ ca ta,w.heap[(ρ i).blk]?=some (.cells ca ta (0,0)))
  {σ:SS R} {o:Oper} {neg:Bool} {t t':TypeId} {y z:Operand} {x:Out R} (ho:o.op=.binOp (if neg then .neq else .eql) t y z t') (h:opEqPtr P σ own neg t y z=some x):OpOk D P o σ x:=by
 unfold opEqPtr at h;split at h
 ·rename_i i j hu hv;split at h
  ·rename_i el ht;split at h
   ·rename_i inf hinf;split at h
    ·rename_i hsz
     have hsz0 : ¬ inf.size = 0 := by have : 0 < inf.size := by simpa using hsz
                                      omega
     have key:∀ (b:Bool),some (quietOut σ True (.bool (Bool.xor b neg)) (some (Bool.xor b neg)) [])=some x ->
       (∀ {C:Ctx} {ρ:Env} {ft:Nat->Nat->Prop} {w:World},HM D C ρ ft σ.hp w->(sameAddr (renA ρ ⟨i,0,none⟩) (renA ρ ⟨j,0,none⟩)).run P w=.ok b w)->OpOk D P o σ x:=by
      intro b h hb;injection h with h
      subst h;refine quiet_ok (fun C ρ ft a w ht' hli hm _=>?_) (fun hli c hc=>by injection hc with hc;rw[hc])
      have h1:=(ev_eval ht' hu).1;have h2:=(ev_eval ht' hv).1;have h5:=hb hm;simp only[ren] at h1 h2;have hr:(Op.equal t (.pointer (some (renA ρ ⟨i,0,none⟩))) (.pointer (some (renA ρ ⟨j,0,none⟩)))).run P w=.ok b w:=by
       have q:∀ d,(Op.equalIn (d+1) t (.pointer (some (renA ρ ⟨i,0,none⟩))) (.pointer (some (renA ρ ⟨j,0,none⟩)))).run P w=.ok b w:=fun d=>by
        simp[Op.equalIn,run_underlying ht,sizeOf,typeInfo,hinf,hsz0,h5]
       exact q 9999
      cases neg with
      |false =>
       simp only[Bool.false_eq_true,if_false] at ho;have q1:(BinOp.eql==BinOp.neq)=false:=by decide
       simp[execOp,ho,h1,h2,eqGuard,binOp,hr,q1,ren]
      |true =>
       simp only[if_true] at ho;have q2:(BinOp.neq==BinOp.neq)=true:=by decide
       simp[execOp,ho,h1,h2,eqGuard,binOp,hr,q2,ren]
     split at h
     ·rename_i hb;have:=Nat.eq_of_beq_eq_true hb;subst this;exact key true h (fun _=>run_sameAddr_same _ _)
     ·rename_i hb;split at h
      ·rename_i hc;simp only[Bool.and_eq_true] at hc;refine key false h (fun {C ρ ft w} hm=>?_)
       obtain⟨g1,c1,t1,e1⟩:=hown hm hc.1;obtain⟨g2,c2,t2,e2⟩:=hown hm hc.2;refine run_sameAddr_other (ca:=c1) (cb:=c2) (ta:=t1) (tb:=t2) _ (fun e=>?_) e1 e2
       simp only[renA,Addr.mk.injEq] at e;rw[e.1] at g1;have:=hm.apart _ _ _ g1 g2;subst this;simp at hb
      ·cases h
    ·cases h
   ·cases h
  ·cases h
 ·cases h
end
end Rx
namespace Rx
open Go.RowKit State
structure fits (n:Int):Prop where
 lo:-9223372036854775808≤n
 hi:n≤9223372036854775807
theorem fits_wrap {n:Int} (h:fits n):IntKind.i64.wrap n=n:=by rw[IntKind.wrap_i64];have:=h.lo;have:=h.hi;omega
section
variable {R:Type} {D:Res R} {P:Program} {C:Ctx} {ρ:Env} {ft:Nat->Nat->Prop} {w w':World}
def opInt (σ:SS R) (op:BinOp) (y z:Operand):Option (Out R) :=
 match ev σ.tm y,ev σ.tm z with
 |some (.int .i64 a),some (.int .i64 b) =>
  match op with
  |.add=>some (quietOut σ (fits (a+b)) (.int .i64 (a+b)) none [])
  |.sub=>some (quietOut σ (fits (a-b)) (.int .i64 (a-b)) none [])
  |.mul=>some (quietOut σ (fits (a*b)) (.int .i64 (a*b)) none [])
  |.quo=>some (quietOut σ (b≠0/\fits (a.tdiv b)) (.int .i64 (a.tdiv b)) none [])
  |.rem=>some (quietOut σ (b≠0) (.int .i64 (a.tmod b)) none [])
  |_=>none
 |_,_=>none
theorem opInt_ok {σ:SS R} {o:Oper} {op:BinOp} {t t':TypeId} {y z:Operand} {x:Out R} (ho:o.op=.binOp op t y z t') (h:opInt σ op y z=some x):OpOk D P o σ x:=by
 unfold opInt at h;split at h
 ·rename_i a b ha hb;cases op<;>simp only at h<;>try cases h
  all_goals
   refine quiet_ok (fun C ρ ft ac w ht hli hm hv=>?_) (fun hli c hc=>by cases hc)
   have h1:=(ev_eval ht ha).1;have h2:=(ev_eval ht hb).1;simp only[ren_int] at h1 h2;simp only[execOp,ho,h1,h2,ren_int]
  ·simp[eqGuard,binOp,Op.intArith,fits_wrap hv]
  ·simp[eqGuard,binOp,Op.intArith,fits_wrap hv]
  ·simp[eqGuard,binOp,Op.intArith,fits_wrap hv]
  ·simp[eqGuard,binOp,Op.intDiv,fits_wrap hv.2,hv.1]
  ·simp[eqGuard,binOp,Op.intDiv,hv]
 ·cases h
def opCat (σ:SS R) (y z:Operand):Option (Out R) :=
 match ev σ.tm y,ev σ.tm z with
 |some (.string a),some (.string b)=>some (quietOut σ (a.size+b.size≤9223372036854775807) (.string (a++b)) none [])
 |_,_=>none
theorem opCat_ok {σ:SS R} {o:Oper} {t t':TypeId} {y z:Operand} {x:Out R} (ho:o.op=.binOp .add t y z t') (h:opCat σ y z=some x):OpOk D P o σ x:=by
 unfold opCat at h;split at h
 ·rename_i a b ha hb;injection h with h
  subst h;refine quiet_ok (fun C ρ ft ac w ht hli hm hv=>?_) (fun hli c hc=>by cases hc)
  have h1:=(ev_eval ht ha).1;have h2:=(ev_eval ht hb).1;simp only[ren_string] at h1 h2;have hm:¬ ((a.size+b.size:Nat):Int)>IntKind.i64.max:=by
   have:IntKind.i64.max=9223372036854775807:=by decide
   rw[this];omega
  simp only[execOp,ho,h1,h2,ren_string];simp only[eqGuard,binOp,Op.stringOp,if_neg hm];simp
 ·cases h
def eqF (P:Program) (sub:TypeId->List Value->List Value->Option Bool) (xs ys:List Value):List Field->Option Bool
 |[]=>some true
 |f::fs =>
  if f.name ≠ "_" then
   match P.underlying f.type with
   |some (.struct _) =>
    match P.info? f.type with
    |some i =>
     match sub f.type ((xs.drop f.offset).take i.size) ((ys.drop f.offset).take i.size) with
     |some b=>(eqF P sub xs ys fs).map fun r=>b&&r
     |none=>none
    |none=>none
   |u =>
    match u,xs[f.offset]?,ys[f.offset]? with
    |some (.int _),some (.int k a),some (.int k' b)=>if k=k' then(eqF P sub xs ys fs).map fun r=>(a==b)&&r else none
    |some .bool,some (.bool a),some (.bool b)=>(eqF P sub xs ys fs).map fun r=>(a==b)&&r
    |some .string,some (.string a),some (.string b)=>(eqF P sub xs ys fs).map fun r=>(a==b)&&r
    |_,_,_=>none
  else eqF P sub xs ys fs
def eqD (P:Program):Nat->TypeId->List Value->List Value->Option Bool
 |0,_,_,_=>none
 |n+1,t,xs,ys =>
  match P.underlying t with
  |some (.struct ⟨fs⟩)=>if P.stoodInHeld t then none else eqF P (eqD P n) xs ys fs
  |_=>none
theorem part_agg {t:TypeId} {fs:Array Field} {i:TypeInfo} {xs:List Value} {off:Nat} (hu:P.underlying t=some (.struct fs)) (hi:P.info? t=some i) (w:World):(part t ⟨xs⟩ off).run P w=.ok (.agg ⟨(xs.drop off).take i.size⟩) w:=by
 have h1:(isAgg t).run P w=.ok true w:=by simp[isAgg,run_underlying hu]
 have h2:(sizeOf t).run P w=.ok i.size w:=by simp[sizeOf,typeInfo,hi]
 have h3:((⟨xs⟩:Array Value).extract off (off+i.size))=⟨(xs.drop off).take i.size⟩:=by
  apply Array.ext';simp
 simp only[part,Sem.run_bind,h1,Result.andThen_ok,if_true,h2,Sem.run_pure,h3]
theorem eqF_run {sub:TypeId->List Value->List Value->Option Bool} {xs ys:List Value} (d:Nat) (w:World) (hsub:∀ t a c b,sub t a c=some b->(Op.equalIn (d+1) t (.agg ⟨a⟩) (.agg ⟨c⟩)).run P w=.ok b w):∀ (fs:List Field) (r:Bool),eqF P sub xs ys fs=some r->(Op.eqFields (d+1) ⟨xs⟩ ⟨ys⟩ fs).run P w=.ok r w
 |[],r,h=>by
  simp only[eqF] at h;injection h with h
  subst h;simp[Op.eqFields]
 |f::fs,r,h=>by
  simp only[eqF] at h;simp only[Op.eqFields]
  have step0:∀ (b:Bool) (x y:Value),((part f.type ⟨xs⟩ f.offset).run P w=.ok x w)->((part f.type ⟨ys⟩ f.offset).run P w=.ok y w)->(Op.equalIn (d+1) f.type x y).run P w=.ok b w->(eqF P sub xs ys fs).map (fun r=>b&&r)=some r ->
    (do
     let a ← part f.type ⟨xs⟩ f.offset
     let b ← part f.type ⟨ys⟩ f.offset
     let r ← Op.equalIn (d+1) f.type a b
     if(!r)=true then pure false else Op.eqFields (d+1) ⟨xs⟩ ⟨ys⟩ fs:Sem Bool).run P w=.ok r w:=by
   intro b x y hx hy he hr;cases hq:eqF P sub xs ys fs with
   |none=>rw[hq] at hr;cases hr
   |some r' =>
    rw[hq] at hr;simp only[Option.map_some,Option.some.injEq] at hr;have ih:=eqF_run d w hsub fs r' hq;simp only[Sem.run_bind,hx,hy,Result.andThen_ok,he];cases b with
    |true =>
     simp only[Bool.true_and] at hr;subst hr;simp[ih]
    |false =>
     simp only[Bool.false_and] at hr;subst hr;simp
  have step:∀ (b:Bool) (x y:Value),((isAgg f.type).run P w=.ok false w)->xs[f.offset]?=some x->ys[f.offset]?=some y->(Op.equalIn (d+1) f.type x y).run P w=.ok b w->(eqF P sub xs ys fs).map (fun r=>b&&r)=some r ->
    (do
     let a ← part f.type ⟨xs⟩ f.offset
     let b ← part f.type ⟨ys⟩ f.offset
     let r ← Op.equalIn (d+1) f.type a b
     if(!r)=true then pure false else Op.eqFields (d+1) ⟨xs⟩ ⟨ys⟩ fs:Sem Bool).run P w=.ok r w:=by
   intro b x y hagg hx hy he hr;refine step0 b x y ?_ ?_ he hr
   ·simp only[part,Sem.run_bind,hagg,Result.andThen_ok,Bool.false_eq_true,if_false,List.getElem?_toArray,hx,Sem.run_pure]
   ·simp only[part,Sem.run_bind,hagg,Result.andThen_ok,Bool.false_eq_true,if_false,List.getElem?_toArray,hy,Sem.run_pure]
  split at h
  ·rename_i hn;rw[if_pos hn];split at h
   ·rename_i gs hu;split at h
    ·rename_i i hi;split at h
     ·rename_i b hb;exact step0 b _ _ (part_agg hu hi w) (part_agg hu hi w) (hsub _ _ _ _ hb) h
     ·cases h
    ·cases h
   ·split at h
    ·rename_i k0 k a k' b hu hx hy;split at h
     ·rename_i hk;subst hk;exact step _ _ _ (by simp[isAgg,run_underlying hu]) hx hy (run_equalIn_int w d f.type k k0 a b hu) h
     ·cases h
    ·rename_i a b hu hx hy;exact step _ _ _ (by simp[isAgg,run_underlying hu]) hx hy (run_equalIn_bool' w d f.type a b hu) h
    ·rename_i a b hu hx hy;refine step _ _ _ (by simp[isAgg,run_underlying hu]) hx hy ?_ h
     rw[beq_toListBytes];exact run_equalIn_string w d f.type a b hu
    ·cases h
  ·rename_i hn;rw[if_neg hn];exact eqF_run d w hsub fs r h
theorem eqD_run (w:World):∀ (n d:Nat),n≤d->∀ (t:TypeId) (a c:List Value) (b:Bool),eqD P n t a c=some b->(Op.equalIn (d+1) t (.agg ⟨a⟩) (.agg ⟨c⟩)).run P w=.ok b w
 |0,d,_,t,a,c,b,h=>by cases h
 |n+1,0,hd,t,a,c,b,h=>by omega
 |n+1,d+1,hd,t,a,c,b,h=>by
  simp only[eqD] at h;split at h
  ·rename_i fs hu;split at h
   ·cases h
   ·rename_i hs;have hs:P.stoodInHeld t=false:=by simpa using hs
    have hfo:P.fieldsOf t=⟨fs⟩:=by simp[Program.fieldsOf,hu]
    have hst:=run_equalIn_struct (P:=P) w (d+1) t ⟨a⟩ ⟨c⟩ (by rw[hfo];exact hu) hs
    rw[hfo] at hst;exact hst.trans (eqF_run d w (fun t' a' c' b' h'=>eqD_run w n d (by omega) t' a' c' b' h') fs b h)
  ·cases h
def opEqAgg (P:Program) (σ:SS R) (neg:Bool) (t:TypeId) (y z:Operand):Option (Out R) :=
 match ev σ.tm y,ev σ.tm z with
 |some (.agg ⟨xs⟩),some (.agg ⟨ys⟩) =>
  match P.underlying t with
  |some (.struct ⟨fs⟩) =>
   if flatL xs&&flatL ys && !P.stoodInHeld t && !P.eqGuardType P.depth t then
    match eqF P (eqD P 4) xs ys fs with
    |some b=>some (quietOut σ True (.bool (if neg then !b else b)) none [])
    |none=>none
   else none
  |_=>none
 |_,_=>none
theorem opEqAgg_ok {σ:SS R} {o:Oper} {neg:Bool} {t t':TypeId} {y z:Operand} {x:Out R} (ho:o.op=.binOp (if neg then .neq else .eql) t y z t') (h:opEqAgg P σ neg t y z=some x):OpOk D P o σ x:=by
 unfold opEqAgg at h;split at h
 ·rename_i xs ys ha hb;split at h
  ·rename_i fs hu;split at h
   ·rename_i hc;simp only[Bool.and_eq_true,Bool.not_eq_true'] at hc;obtain⟨⟨⟨f1,f2⟩,hs⟩,hg⟩:=hc;split at h
    ·rename_i b hq;injection h with h
     subst h;refine quiet_ok (fun C ρ ft ac w ht hli hm hv=>?_) (fun hli c hc=>by cases hc)
     have h1:=(ev_eval ht ha).1;have h2:=(ev_eval ht hb).1;rw[flat_ren _ (by simpa [flat] using f1)] at h1
     rw[flat_ren _ (by simpa [flat] using f2)] at h2
     have hfo:P.fieldsOf t=⟨fs⟩:=by simp[Program.fieldsOf,hu]
     have he:=eqF_run (P:=P) (xs:=xs) (ys:=ys) 9998 w (fun t' a' c' b' h'=>eqD_run w 4 9998 (by omega) t' a' c' b' h') fs b hq
     have hst:=run_equalIn_struct (P:=P) w 9999 t ⟨xs⟩ ⟨ys⟩ (by rw[hfo];exact hu) hs
     rw[hfo] at hst;have hst2:(Op.equalIn 10000 t (.agg ⟨xs⟩) (.agg ⟨ys⟩)).run P w=.ok b w:=hst.trans he;simp only[execOp,ho,h1,h2,ren_bool];cases neg with
     |false =>
      simp only[Bool.false_eq_true,if_false,Sem.run_bind,run_eqGuard_agg w _ t y z _ _ hg,Result.andThen_ok,run_eql_struct,hst2,Sem.run_pure]
     |true =>
      simp only[if_true,Sem.run_bind,run_eqGuard_agg w _ t y z _ _ hg,Result.andThen_ok,run_neq_struct,hst2,Sem.run_pure]
    ·cases h
   ·cases h
  ·cases h
 ·cases h
def aggOf (P:Program) (t:TypeId):Option (Option Nat) :=
 match P.underlying t with
 |some (.struct _)|some (.array _ _) =>
  match P.info? t with
  |some i=>some (some i.size)
  |none=>none
 |some _=>some none
 |none=>none
theorem aggOf_some {t:TypeId} {n:Nat} (h:aggOf P t=some (some n)) (w:World):(isAgg t).run P w=.ok true w/\(sizeOf t).run P w=.ok n w:=by
 unfold aggOf at h;split at h
 ·rename_i fs hu;split at h
  ·rename_i i hi;injection h with h;injection h with h
   subst h;exact⟨by simp[isAgg,run_underlying hu],by simp[sizeOf,typeInfo,hi]⟩
  ·cases h
 ·rename_i n' e hu;split at h
  ·rename_i i hi;injection h with h;injection h with h
   subst h;exact⟨by simp[isAgg,run_underlying hu],by simp[sizeOf,typeInfo,hi]⟩
  ·cases h
 ·injection h with h;cases h
 ·cases h
theorem aggOf_none {t:TypeId} (h:aggOf P t=some none) (w:World):(isAgg t).run P w=.ok false w:=by
 unfold aggOf at h;split at h
 ·split at h
  ·injection h with h;cases h
  ·cases h
 ·split at h
  ·injection h with h;cases h
  ·cases h
 ·rename_i d h1 h2 hu;unfold isAgg;rw[Sem.run_bind,run_underlying hu w];simp only[Result.andThen_ok]
  first
   |rfl
   |(split
      · rename_i fs; exact absurd hu (h1 fs)
      · rename_i n e; exact absurd hu (h2 n e)
      · rfl)
 ·cases h
def opField (P:Program) (σ:SS R) (t:TypeId) (y:Operand) (k:Nat):Option (Out R) :=
 match ev σ.tm y with
 |some (.agg ⟨l⟩) =>
  match P.underlying t with
  |some (.struct ⟨fs⟩) =>
   match fs[k]? with
   |some f =>
    match aggOf P f.type with
    |some none=>match l[f.offset]? with
     |some v=>some (quietOut σ True v none [])
     |none=>none
    |some (some n)=>some (quietOut σ True (.agg ⟨(l.drop f.offset).take n⟩) none [])
    |none=>none
   |none=>none
  |_=>none
 |_=>none
theorem opField_ok {σ:SS R} {o:Oper} {t:TypeId} {y:Operand} {k:Nat} {x:Out R} (ho:o.op=.field t y k) (h:opField P σ t y k=some x):OpOk D P o σ x:=by
 unfold opField at h;split at h
 ·rename_i l ha;split at h
  ·rename_i fs hu;split at h
   ·rename_i f hf;split at h
    ·rename_i hg;split at h
     ·rename_i v hv;injection h with h
      subst h;refine quiet_ok (fun C ρ ft ac w ht hli hm _=>?_) (fun hli c hc=>by cases hc)
      have h1:=(ev_eval ht ha).1;rw[ren_agg] at h1;simp[execOp,ho,h1,Instr.field,run_underlying hu,hf,asAgg,part,aggOf_none hg w,hv]
     ·cases h
    ·rename_i n hg;injection h with h
     subst h;refine quiet_ok (fun C ρ ft ac w ht hli hm _=>?_) (fun hli c hc=>by cases hc)
     have h1:=(ev_eval ht ha).1;rw[ren_agg] at h1;obtain⟨g1,g2⟩:=aggOf_some hg w;simp only[execOp,ho,h1,Instr.field,Sem.run_bind,run_underlying hu,Result.andThen_ok,List.getElem?_toArray,hf,asAgg,Sem.run_pure,part,g1,if_true,g2,ren_agg]
     congr 3
     apply Array.ext';simp[Array.toList_extract,List.extract_eq_take_drop,List.map_drop,List.map_take]
    ·cases h
   ·cases h
  ·cases h
 ·cases h
def opFieldAddr (P:Program) (σ:SS R) (t:TypeId) (y:Operand) (k:Nat):Option (Out R) :=
 match ev σ.tm y with
 |some (.pointer (some ⟨i,e,sp⟩)) =>
  match P.underlying t with
  |some (.struct ⟨fs⟩) =>
   match fs[k]? with
   |some f =>
    match P.info? f.type with
    |some inf =>
     if Nat.beq inf.size 0 then none else
     match sp with
     |none=>some (quietOut σ True (.pointer (some ⟨i,e+f.offset,none⟩)) none [])
     |some q=>if Nat.blt q 1000000&&Nat.blt (q%1000+f.offset) 1000 then some (quietOut σ True (.pointer (some ⟨i,e,some (q+f.offset)⟩)) none []) else none
    |none=>none
   |none=>none
  |_=>none
 |_=>none
theorem add_at (b o j:Nat):(⟨b,o,none⟩:Addr).add j=⟨b,o+j,none⟩:=by
 unfold Addr.add;split
 ·rename_i h;subst h;rfl
 ·rfl
theorem opFieldAddr_ok {σ:SS R} {o:Oper} {t:TypeId} {y:Operand} {k:Nat} {x:Out R} (ho:o.op=.fieldAddr t y k) (h:opFieldAddr P σ t y k=some x):OpOk D P o σ x:=by
 unfold opFieldAddr at h;split at h
 ·rename_i i e sp ha;split at h
  ·rename_i fs hu;split at h
   ·rename_i f hf;split at h
    ·rename_i inf hi;split at h
     ·cases h
     ·rename_i hz;have hz':inf.size≠0:=fun e=>hz (by rw[e];rfl)
      have key:∀ (C:Ctx) (ρ:Env) (ft:Nat->Nat->Prop) (ac:Act) (w:World),TM ρ σ.hp.length σ.tm ac ->
        (execOp ac.eval o).run P w=.ok (.value (.pointer (some ((renA ρ ⟨i,e,sp⟩).add f.offset)))) w:=by
       intro C ρ ft ac w ht;have h1:=(ev_eval ht ha).1;simp only[ren] at h1;simp[execOp,ho,h1,Instr.fieldAt,run_underlying hu,hf,Instr.sureAddr,fieldPlace,sizeOf,typeInfo,hi,hz']
      split at h
      ·injection h with h
       subst h;refine quiet_ok (fun C ρ ft ac w ht hli hm _=>?_) (fun hli c hc=>by cases hc)
       rw[key C ρ ft ac w ht];simp only[ren,renA,add_at,cellOf,Nat.add_assoc]
      ·rename_i q;split at h
       ·rename_i hq;simp only[Bool.and_eq_true,Nat.blt_eq] at hq;injection h with h
        subst h;refine quiet_ok (fun C ρ ft ac w ht hli hm _=>?_) (fun hli c hc=>by cases hc)
        rw[key C ρ ft ac w ht];simp only[ren,renA,add_at,cellOf];have e1:q%1000000 / 1000=(q+f.offset)%1000000 / 1000:=by omega
        have e2:q%1000+f.offset=(q+f.offset)%1000:=by omega
        rw[e1,← e2,Nat.add_assoc,Nat.add_assoc]
       ·cases h
    ·cases h
   ·cases h
  ·cases h
 ·cases h
end
end Rx
namespace Rx
open Go.RowKit State
section
variable {R:Type} {D:Res R} {P:Program} {C:Ctx} {ρ:Env} {ft:Nat->Nat->Prop} {w w':World}
def opIndexAddr (P:Program) (σ:SS R) (t:TypeId) (y z:Operand):Option (Out R) :=
 match ev σ.tm y,ev σ.tm z with
 |some (.slice (some ⟨i,e0,some q⟩) n _),some (.int _ j) =>
  match P.underlying t with
  |some (.slice el) =>
   match P.info? el,σ.hp[i]? with
   |some inf,some (some (.inr (.inl (_,r)))) =>
    if Nat.beq (q%1000000) (1000*inf.size)&&Nat.beq inf.size r.tm.length then
     some (quietOut σ (0≤j/\j<n/\e0+n≤r.n) (.pointer (some ⟨i,e0+j.toNat,some (1000*inf.size)⟩)) none [])
    else none
   |some inf,some (some (.inr (.inr (.inl r)))) =>
    if Nat.beq (q%1000000) (1000*inf.size)&&Nat.beq inf.size r.tm.length then
     some (quietOut σ (0≤j/\j<n/\e0+n≤r.n) (.pointer (some ⟨i,e0+j.toNat,some (1000*inf.size)⟩)) none [])
    else none
   |_,_=>none
  |_=>none
 |_,_=>none
theorem cap_row {i:Nat} {h:Hp R} {t:TypeId} {r:Row} (hm:HM D C ρ ft h w) (hi:h[i]?=some (some (.inr (.inl (t,r))))):r.n≤(ρ i).cap:=(hm.at_ i _ hi).1.2.2.1
theorem cap_view {i:Nat} {h:Hp R} {r:Row} (hm:HM D C ρ ft h w) (hi:h[i]?=some (some (.inr (.inr (.inl r))))):r.n≤(ρ i).cap:=(hm.at_ i _ hi).1.2.2.1
theorem indexAddr_run {σ:SS R} {o:Oper} {t el:TypeId} {y z:Operand} {i e0 q n c:Nat} {k:IntKind} {j:Int} {inf:TypeInfo} {N:Nat} (ho:o.op=.indexAddr t y z)
  (ha:ev σ.tm y=some (.slice (some ⟨i,e0,some q⟩) n c)) (hb:ev σ.tm z=some (.int k j)) (hu:P.underlying t=some (.slice el)) (hi:P.info? el=some inf)
  (hq:q%1000000=1000*inf.size) {ac:Act} (ht:TM ρ σ.hp.length σ.tm ac) (hv:0≤j/\j<n/\e0+n≤N) (hcap:N≤(ρ i).cap) (hnil:(ρ i).nil=true->(ρ i).cap=0) :
  (execOp ac.eval o).run P w=.ok (.value (ren ρ (.pointer (some ⟨i,e0+j.toNat,some (1000*inf.size)⟩)))) w:=by
 have h1:=(ev_eval ht ha).1;have h2:=(ev_eval ht hb).1;obtain⟨v0,v1,v2⟩:=hv;have hne:¬ (q / 1000000≠0/\(ρ i).cap≤e0):=fun h=>by omega
 have hnn:¬ (ρ i).nil=true:=fun h=>by have:=hnil h;omega
 simp only[ren,renS,if_neg hne,if_neg hnn] at h1;simp only[ren_int] at h2;have hsz:1000*inf.size%1000000=1000*inf.size:=by rw[← hq];omega
 simp only[execOp,ho,h1,h2,Instr.indexAt,asIntOf,Sem.run_bind,Sem.run_pure,Result.andThen_ok,run_underlying hu,Sem.run_ite];have hc:(0≤j/\j<(n:Int)):=⟨v0,v1⟩;have hd1:q%1000000 / 1000=inf.size:=by omega
 have hd2:q%1000=0:=by omega
 have hd3:1000*inf.size%1000000 / 1000=inf.size:=by omega
 have hd4:1000*inf.size%1000=0:=by omega
 simp only[hc,and_self,if_true,sizeOf,typeInfo,Sem.run_bind,run_program,Result.andThen_ok,hi,Sem.run_pure,ren,renA,add_at,cellOf,hd1,hd2,hd3,hd4,Nat.add_zero];simp[Nat.add_mul,Nat.add_assoc]
theorem opIndexAddr_ok {σ:SS R} {o:Oper} {t:TypeId} {y z:Operand} {x:Out R} (ho:o.op=.indexAddr t y z) (h:opIndexAddr P σ t y z=some x):OpOk D P o σ x:=by
 unfold opIndexAddr at h;split at h
 ·rename_i i e0 q n c k j ha hb;split at h
  ·rename_i el hu;split at h
   ·rename_i inf t' r hi hr;split at h
    ·rename_i hc;simp only[Bool.and_eq_true] at hc;have hq:=Nat.eq_of_beq_eq_true hc.1;injection h with h
     subst h;exact quiet_ok (fun C ρ ft ac w ht hli hm hv=>indexAddr_run ho ha hb hu hi hq ht hv (cap_row hm hr) (hm.at_ i _ hr).1.2.2.2.2.1) (fun hli c hc=>by cases hc)
    ·cases h
   ·rename_i inf r hi hr;split at h
    ·rename_i hc;simp only[Bool.and_eq_true] at hc;have hq:=Nat.eq_of_beq_eq_true hc.1;injection h with h
     subst h;exact quiet_ok (fun C ρ ft ac w ht hli hm hv=>indexAddr_run ho ha hb hu hi hq ht hv (cap_view hm hr) (hm.at_ i _ hr).1.2.2.2.2.1) (fun hli c hc=>by cases hc)
    ·cases h
   ·cases h
  ·cases h
 ·cases h
def opIndexCells (P:Program) (σ:SS R) (t:TypeId) (y z:Operand):Option (Out R) :=
 match ev σ.tm y,ev σ.tm z with
 |some (.slice (some ⟨i,e,none⟩) n _),some (.int _ j) =>
  match P.underlying t with
  |some (.slice el) =>
   match P.info? el with
   |some inf=>some (quietOut σ (0≤j/\j<n) (.pointer (some ⟨i,e+j.toNat*inf.size,none⟩)) none [])
   |none=>none
  |_=>none
 |_,_=>none
theorem opIndexCells_ok {σ:SS R} {o:Oper} {t:TypeId} {y z:Operand} {x:Out R} (ho:o.op=.indexAddr t y z) (h:opIndexCells P σ t y z=some x):OpOk D P o σ x:=by
 unfold opIndexCells at h;split at h
 ·rename_i i e n c k j ha hb;split at h
  ·rename_i el hu;split at h
   ·rename_i inf hi;injection h with h
    subst h;refine quiet_ok (fun C ρ ft ac w ht hli hm hv=>?_) (fun hli c hc=>by cases hc)
    have h1:=(ev_eval ht ha).1;have h2:=(ev_eval ht hb).1;simp only[ren,renS] at h1;simp only[ren_int] at h2;have hc:(0≤j/\j<(n:Int)):=hv;simp only[execOp,ho,h1,h2,Instr.indexAt,asIntOf,Sem.run_bind,Sem.run_pure,Result.andThen_ok,run_underlying hu,Sem.run_ite];simp only[hc,and_self,if_true,sizeOf,typeInfo,Sem.run_bind,run_program,Result.andThen_ok,hi,Sem.run_pure,ren,renA,add_at,cellOf,Nat.add_assoc]
   ·cases h
  ·cases h
 ·cases h
def opIndexArr (P:Program) (σ:SS R) (t:TypeId) (y z:Operand):Option (Out R) :=
 match ev σ.tm y,ev σ.tm z with
 |some (.pointer (some ⟨i,e,sp⟩)),some (.int _ j) =>
  match P.underlying t with
  |some (.array n el) =>
   match P.info? el with
   |some inf =>
    match sp with
    |none=>some (quietOut σ (0≤j/\j<n) (.pointer (some ⟨i,e+j.toNat*inf.size,none⟩)) none [])
    |some q=>if Nat.blt q 1000000&&Nat.blt (q%1000+n*inf.size) 1000 then some (quietOut σ (0≤j/\j<n) (.pointer (some ⟨i,e,some (q+j.toNat*inf.size)⟩)) none []) else none
   |none=>none
  |_=>none
 |_,_=>none
theorem opIndexArr_ok {σ:SS R} {o:Oper} {t:TypeId} {y z:Operand} {x:Out R} (ho:o.op=.indexAddr t y z) (h:opIndexArr P σ t y z=some x):OpOk D P o σ x:=by
 unfold opIndexArr at h;split at h
 ·rename_i i e sp k j ha hb;split at h
  ·rename_i n el hu;split at h
   ·rename_i inf hi
    have key:∀ (ρ:Env) (ac:Act) (w:World),TM ρ σ.hp.length σ.tm ac->(0≤j/\j<(n:Int)) ->
      (execOp ac.eval o).run P w=.ok (.value (.pointer (some ((renA ρ ⟨i,e,sp⟩).add (j.toNat*inf.size))))) w:=by
     intro ρ ac w ht hj;have h1:=(ev_eval ht ha).1;have h2:=(ev_eval ht hb).1;simp only[ren] at h1;simp only[ren_int] at h2;simp only[execOp,ho,h1,h2,Instr.indexAt,Instr.sureAddr,asIntOf,Sem.run_bind,Sem.run_pure,Result.andThen_ok,run_underlying hu,Sem.run_ite];simp only[hj,and_self,if_true,sizeOf,typeInfo,Sem.run_bind,run_program,Result.andThen_ok,hi,Sem.run_pure]
    split at h
    ·injection h with h
     subst h;refine quiet_ok (fun C ρ ft ac w ht hli hm hv=>?_) (fun hli c hc=>by cases hc)
     rw[key ρ ac w ht hv];simp only[ren,renA,add_at,cellOf,Nat.add_assoc]
    ·rename_i q;split at h
     ·rename_i hq;simp only[Bool.and_eq_true,Nat.blt_eq] at hq;injection h with h
      subst h;refine quiet_ok (fun C ρ ft ac w ht hli hm hv=>?_) (fun hli c hc=>by cases hc)
      rw[key ρ ac w ht hv];have hv':0≤j/\j<(n:Int):=hv;have hs:j.toNat*inf.size≤n*inf.size:=Nat.mul_le_mul_right _ (by omega)
      simp only[ren,renA,add_at,cellOf];have e1:q%1000000 / 1000=(q+j.toNat*inf.size)%1000000 / 1000:=by omega
      have e2:q%1000+j.toNat*inf.size=(q+j.toNat*inf.size)%1000:=by omega
      rw[e1,← e2,Nat.add_assoc,Nat.add_assoc]
     ·cases h
   ·cases h
  ·cases h
 ·cases h
def rowCells (tm:List Value) (cols:List Col) (e:Nat):Nat->Nat->Option (List Value)
 |_,0=>some []
 |f,m+1 =>
  match tm[f]?,cols[f]? with
  |some t,some c=>(rowCells tm cols e (f+1) m).map (cellVal t c e::·)
  |_,_=>none
theorem rowCells_get {tm:List Value} {cols:List Col} {e:Nat}:∀ {m f:Nat} {l:List Value},rowCells tm cols e f m=some l->l.length=m/\∀ (j:Nat) (v:Value),l[j]?=some v->∃ t c,tm[f+j]?=some t/\cols[f+j]?=some c/\v=cellVal t c e
 |0,f,l,h=>by
  simp only[rowCells] at h;injection h with h
  subst h;exact⟨rfl,fun j v hv=>by simp at hv⟩
 |m+1,f,l,h=>by
  simp only[rowCells] at h;split at h
  ·rename_i t c ht hc;cases hr:rowCells tm cols e (f+1) m with
   |none=>rw[hr] at h;cases h
   |some l' =>
    rw[hr] at h;simp only[Option.map_some,Option.some.injEq] at h;subst h;obtain⟨h1,h2⟩:=rowCells_get hr;refine⟨by simp[h1],fun j v hv=>?_⟩
    cases j with
    |zero =>
     simp only[List.getElem?_cons_zero,Option.some.injEq] at hv;exact⟨t,c,ht,hc,hv.symm⟩
    |succ j =>
     simp only[List.getElem?_cons_succ] at hv;obtain⟨t',c',g1,g2,g3⟩:=h2 j v hv;exact⟨t',c',by rw[show f+(j+1)=f+1+j by omega];exact g1,by rw[show f+(j+1)=f+1+j by omega];exact g2,g3⟩
  ·cases h
theorem cellVal_flat {t:Value} {c:Col} {n:Nat} (h:colOk t c n) (e:Nat):flat (cellVal t c e)=true:=by
 cases t<;>simp only[cellVal,flat]<;>exact h.1
theorem cellVal_one {t:Value} {c:Col} {n:Nat} (h:colOk t c n) (e:Nat):(cellVal t c e).oneCell'=true:=by
 cases t<;>simp only[cellVal,Value.oneCell']<;>exact h.2
def rowOf (x:Option (Option (SB R))):Option Row :=
 match x with
 |some (some (.inr (.inl (_,r))))=>some r
 |some (some (.inr (.inr (.inl r))))=>some r
 |_=>none
theorem row_reads {h:Hp R} {i:Nat} {r:Row} (hm:HM D C ρ ft h w) (hr:rowOf h[i]?=some r) :
  r.n≤(ρ i).cap/\(ρ i).cap≤maxLen/\0<r.tm.length/\r.cols.length=r.tm.length/\(∀ (f:Nat) (t:Value) (c:Col),r.tm[f]?=some t->r.cols[f]?=some c->colOk t c r.n) /\
   ∀ (f:Nat) (t:Value) (c:Col) (e:Nat),r.tm[f]?=some t->r.cols[f]?=some c->e<r.n->w.cell? ⟨(ρ i).blk,(ρ i).off+(e*r.tm.length+f),none⟩=some (cellVal t c e):=by
 unfold rowOf at hr;split at hr
 ·rename_i t0 r0 hi;injection hr with hr
  subst hr;obtain⟨h1,h2,h3,h4,h4',arr,h5,h7⟩:=(hm.at_ i _ hi).1;refine⟨h3,h4,h2,h7.len,h7.col,fun f t c e g1 g2 g3=>?_⟩
  have hn:(ρ i).nil=false:=by
   cases hq:(ρ i).nil with
   |false=>rfl
   |true=>have:=h4' hq;omega
  rw[cell_of_row w _ _ arr _ _ (h5 hn).1];exact h7.cell f t c e g1 g2 g3
 ·rename_i r0 hi;injection hr with hr
  subst hr;obtain⟨h1,h2,h3,h4,h4',arr,h5,h8⟩:=(hm.at_ i _ hi).1;refine⟨h3,h4,h2,h8.len,h8.col,fun f t c e g1 g2 g3=>?_⟩
  have hn:(ρ i).nil=false:=by
   cases hq:(ρ i).nil with
   |false=>rfl
   |true=>have:=h4' hq;omega
  obtain⟨h5,h6,t0,fz,h7⟩:=h5 hn (by omega)
  rw[cell_of_row w _ _ arr t0 fz (by rw[hm.kept.block _ h5 h6];exact h7)]
  exact h8.cell f t c e g1 g2 g3
 ·cases hr
theorem cells_reads {h:Hp R} {i:Nat} {t:TypeId} {cs:List Value} (hm:HM D C ρ ft h w) (hi:h[i]?=some (some (.inl (t,cs)))) (j:Nat) :
  w.cell? ⟨(ρ i).blk,(ρ i).off+j,none⟩=cs[j]?.map (ren ρ):=by
 obtain⟨h1,h2,h3⟩:=(hm.at_ i _ hi).1;rw[cell_of_row w _ _ _ _ _ h3,h1,Nat.zero_add];simp
def locs (i f:Nat):Nat->List (Nat×Nat)
 |0=>[]
 |m+1=>(i,f+1)::locs i (f+1) m
def opLoad (P:Program) (σ:SS R) (t:TypeId) (y:Operand):Option (Out R) :=
 match ev σ.tm y with
 |some (.pointer (some ⟨i,e,none⟩)) =>
  match σ.hp[i]? with
  |some (some (.inl (_,cs))) =>
   match aggOf P t with
   |some none=>match cs[e]? with
    |some v=>some (quietOut σ True v none [(i,e+1)])
    |none=>none
   |some (some n)=>if Nat.ble (e+n) cs.length then some (quietOut σ True (.agg ⟨(cs.drop e).take n⟩) none (locs i e n)) else none
   |none=>none
  |_=>none
 |some (.pointer (some ⟨i,e,some q⟩)) =>
  match rowOf σ.hp[i]? with
  |some r =>
   if Nat.beq (q / 1000) r.tm.length&&Nat.blt q 1000000 then
    match aggOf P t with
    |some none=>match rowCells r.tm r.cols e (q%1000) 1 with
     |some [v]=>some (quietOut σ (e<r.n) v none [(i,q%1000+1)])
     |_=>none
    |some (some n)=>match rowCells r.tm r.cols e (q%1000) n with
     |some l=>some (quietOut σ (e<r.n) (.agg ⟨l⟩) none (locs i (q%1000) n))
     |none=>none
    |none=>none
   else none
  |none=>none
 |_=>none
theorem loadVar_agg {t:TypeId} {a:Addr} {cs:List Value} (ha:aggOf P t=some (some cs.length)) (h:∀ (j:Nat) (v:Value),cs[j]?=some v->w.cell? (a.add j)=some v):(loadVar t a).run P w=.ok (.agg ⟨cs⟩) w:=by
 obtain⟨g1,g2⟩:=aggOf_some ha w;have hl:=run_loadCells_list (P:=P) w a cs h;simp only[loadVar,Sem.run_bind,g1,Result.andThen_ok,if_true,g2,hl,Sem.run_pure]
theorem loadVar_one {t:TypeId} {a:Addr} {v:Value} (ha:aggOf P t=some none) (h:w.cell? a=some v):(loadVar t a).run P w=.ok v w:=by
 have g1:=aggOf_none ha w;simp only[loadVar,Sem.run_bind,g1,Result.andThen_ok,Bool.false_eq_true,if_false,run_load,h]
theorem opLoad_ok {σ:SS R} {o:Oper} {t:TypeId} {y:Operand} {x:Out R} (ho:o.op=.load t y) (h:opLoad P σ t y=some x):OpOk D P o σ x:=by
 unfold opLoad at h;split at h
 ·rename_i i e ha;split at h
  ·rename_i t' cs hi;split at h
   ·rename_i hg;split at h
    ·rename_i v hv;injection h with h
     subst h;refine quiet_ok (fun C ρ ft ac w ht hli hm _=>?_) (fun hli c hc=>by cases hc)
     have h1:=(ev_eval ht ha).1;simp only[ren,renA,cellOf] at h1;have hc:=cells_reads hm hi e;rw[hv] at hc;simp[execOp,ho,h1,Instr.loadAt,Instr.sureAddr,loadVar_one hg hc]
    ·cases h
   ·rename_i n hg;split at h
    ·rename_i hle;have hle:=Nat.le_of_ble_eq_true hle;injection h with h
     subst h;refine quiet_ok (fun C ρ ft ac w ht hli hm _=>?_) (fun hli c hc=>by cases hc)
     have h1:=(ev_eval ht ha).1;simp only[ren,renA,cellOf] at h1;have hl:(((cs.drop e).take n).map (ren ρ)).length=n:=by simp;omega
     have hld:(loadVar t ⟨(ρ i).blk,(ρ i).off+e,none⟩).run P w=.ok (.agg ⟨((cs.drop e).take n).map (ren ρ)⟩) w:=by
      refine loadVar_agg (by rw[hl];exact hg) (fun j v hv=>?_)
      rw[add_at,Nat.add_assoc,cells_reads hm hi];have hj:j<n:=by have:=(List.getElem?_eq_some_iff.1 hv).1;omega
      simp only[List.getElem?_map,List.getElem?_take,hj,if_true,List.getElem?_drop] at hv;exact hv
     simp only[execOp,ho,h1,Instr.loadAt,Instr.sureAddr,Sem.run_bind,Sem.run_pure,Result.andThen_ok,hld,ren_agg]
     congr 3
     simp
    ·cases h
   ·cases h
  ·cases h
 ·rename_i i e q ha;split at h
  ·rename_i r hr;split at h
   ·rename_i hc;simp only[Bool.and_eq_true,Nat.blt_eq] at hc;have hq:=Nat.eq_of_beq_eq_true hc.1;have hq2:=hc.2
    have key:∀ (C:Ctx) (ρ:Env) (ft:Nat->Nat->Prop) (ac:Act) (w:World),TM ρ σ.hp.length σ.tm ac->HM D C ρ ft σ.hp w->e<r.n ->
      ac.eval y=.pointer (some ⟨(ρ i).blk,(ρ i).off+(e*r.tm.length+q%1000),none⟩) /\
      ∀ (m:Nat) (l:List Value),rowCells r.tm r.cols e (q%1000) m=some l->(∀ (j:Nat) (v:Value),l[j]?=some v->w.cell? ((⟨(ρ i).blk,(ρ i).off+(e*r.tm.length+q%1000),none⟩:Addr).add j)=some v)/\∀ v∈l,flat v=true:=by
     intro C ρ ft ac w ht hm he;have h1:=(ev_eval ht ha).1;have e1:q%1000000 / 1000=r.tm.length:=by omega
     simp only[ren,renA,cellOf,e1] at h1;obtain⟨_,_,_,_,g4,g5⟩:=row_reads hm hr;refine⟨h1,fun m l hl=>?_⟩
     obtain⟨k1,k2⟩:=rowCells_get hl;refine⟨fun j v hv=>?_,fun v hv=>?_⟩
     ·obtain⟨t,c,q1,q2,rfl⟩:=k2 j v hv;rw[add_at,Nat.add_assoc,Nat.add_assoc];exact g5 _ _ _ _ q1 q2 he
     ·obtain⟨j,hj⟩:=List.getElem?_of_mem hv;obtain⟨t,c,q1,q2,rfl⟩:=k2 j v hj;exact cellVal_flat (g4 _ _ _ q1 q2) e
    split at h
    ·rename_i hg;split at h
     ·rename_i v hv;injection h with h
      subst h;refine quiet_ok (fun C ρ ft ac w ht hli hm he=>?_) (fun hli c hc=>by cases hc)
      obtain⟨h1,h2⟩:=key C ρ ft ac w ht hm he;obtain⟨h3,h4⟩:=h2 _ _ hv;have h5:=h3 0 v (by simp)
      rw[add_at,Nat.add_zero] at h5;rw[flat_ren v (h4 v (by simp))]
      simp[execOp,ho,h1,Instr.loadAt,Instr.sureAddr,loadVar_one hg h5]
     ·cases h
    ·rename_i n hg;split at h
     ·rename_i l hl;injection h with h
      subst h;refine quiet_ok (fun C ρ ft ac w ht hli hm he=>?_) (fun hli c hc=>by cases hc)
      obtain⟨h1,h2⟩:=key C ρ ft ac w ht hm he;obtain⟨h3,h4⟩:=h2 _ _ hl;have hn:=(rowCells_get hl).1;have hld:=loadVar_agg (P:=P) (t:=t) (by rw[hn];exact hg) h3
      rw[flat_ren (.agg ⟨l⟩) (by simpa [flat] using flatL_iff.2 h4)]
      simp only[execOp,ho,h1,Instr.loadAt,Instr.sureAddr,Sem.run_bind,Sem.run_pure,Result.andThen_ok,hld]
     ·cases h
    ·cases h
   ·cases h
  ·cases h
 ·cases h
def setMany (cur:Array Value):Nat->List Value->Array Value
 |_,[]=>cur
 |k,v::l=>setMany (cur.setIfInBounds k v) (k+1) l
def setL (cs:List Value):Nat->List Value->List Value
 |_,[]=>cs
 |k,v::l=>setL (cs.set k v) (k+1) l
theorem setMany_map (cs:List Value):∀ (k:Nat) (l:List Value),setMany (cs.map (ren ρ)).toArray k (l.map (ren ρ))=((setL cs k l).map (ren ρ)).toArray
 |_,[]=>rfl
 |k,v::l=>by
  simp only[List.map_cons,setMany,setL];have:(cs.map (ren ρ)).toArray.setIfInBounds k (ren ρ v)=((cs.set k v).map (ren ρ)).toArray:=by simp
  rw[this];exact setMany_map (cs.set k v) (k+1) l
theorem setMany_size (cur:Array Value):∀ (k:Nat) (l:List Value),(setMany cur k l).size=cur.size
 |_,[]=>rfl
 |k,v::l=>by rw[setMany,setMany_size];simp
theorem setL_length (cs:List Value):∀ (k:Nat) (l:List Value),(setL cs k l).length=cs.length
 |_,[]=>rfl
 |k,v::l=>by rw[setL,setL_length];simp
theorem setL_inb {n:Nat} {cs:List Value}:∀ (k:Nat) (l:List Value),inbL n cs=true->inbL n l=true->inbL n (setL cs k l)=true
 |_,[],h,_=>h
 |k,v::l,h,hl=>by
  simp only[inbL,Bool.and_eq_true] at hl;refine setL_inb (k+1) l ?_ hl.2;rw[inbL_iff] at h ⊢;intro u hu;rcases List.mem_or_eq_of_mem_set hu with hu|rfl
  ·exact h u hu
  ·exact hl.1
theorem run_storeMany (g o:Nat) (t:TypeId):∀ (vs:List Value) (i:Nat) (cur:Array Value) (w:World),w.heap[g]?=some (.cells cur t (0,0))->o+i+vs.length≤cur.size->(∀ v∈vs,v.oneCell'=true) ->
  (storeCells ⟨g,o,none⟩ vs i).run P w=.ok () (w.setRow g (setMany cur (o+i) vs))
 |[],i,cur,w,hg,_,_=>by
  simp only[storeCells,setMany];rw[setRow_self w g cur t (0,0) hg]
  rfl
 |v::rest,i,cur,w,hg,hl,h1=>by
  have hi:o+i<cur.size:=by simp at hl;omega
  have hcell:w.cell? ⟨g,o+i,none⟩=some cur[o+i]:=by simp[World.cell?,hg,hi]
  have hfro:w.frozen? ⟨g,o+i,none⟩=false:=by simp[World.frozen?,hg]
  have hst:(store ((⟨g,o,none⟩:Addr).add i) v).run P w=.ok () (w.setRow g (cur.setIfInBounds (o+i) v)):=by
   rw[add_at,run_store P w _ v _ (h1 v (by simp)),hcell]
   simp[hfro,setCell_eq_setRow w g (o+i) cur t (0,0) v hg]
  have ih:=run_storeMany g o t rest (i+1) (cur.setIfInBounds (o+i) v) (w.setRow g (cur.setIfInBounds (o+i) v)) (setRow_heap w g cur _ t _ hg) (by simp at hl ⊢;omega) (fun x hx=>h1 x (by simp[hx]))
  simp only[storeCells,Sem.run_bind,hst,Result.andThen_ok,ih,setRow_setRow,setMany,Nat.add_assoc]
theorem kept_setRow (w:World) (g:Nat) (cs:Array Value) {F:Nat->Prop} (hF:F g):Kept F w (w.setRow g cs) :=
 ⟨rfl,rfl,rfl,by simp[World.setRow],fun k _ hn=>setRow_other w g k cs (fun e=>hn (e▸hF))⟩
def oneL:List Value->Bool
 |[]=>true
 |v::l=>v.oneCell'&&oneL l
theorem oneL_mem {l:List Value} (h:oneL l=true):∀ v∈l,v.oneCell'=true:=by
 induction l with
 |nil=>intro v hv;cases hv
 |cons u l ih =>
  simp only[oneL,Bool.and_eq_true] at h;intro v hv;rcases List.mem_cons.1 hv with rfl|hv
  ·exact h.1
  ·exact ih h.2 v hv
def setCol (t:Value) (c:Col) (e:Nat) (v:Value):Option Col :=
 match t,v with
 |.int k _,.int k' x=>if k=k' then some { c with i:=c.i.set e x } else none
 |.bool _,.bool x=>some { c with b:=c.b.set e x }
 |.string _,.string x=>some { c with s:=c.s.set e x }
 |_,_=>none
def setCols (tm:List Value) (cols:List Col) (e:Nat):Nat->List Value->Option (List Col)
 |_,[]=>some cols
 |f,v::l =>
  match tm[f]?,cols[f]? with
  |some t,some c=>match setCol t c e v with
   |some c'=>setCols tm (cols.set f c') e (f+1) l
   |none=>none
  |_,_=>none
theorem setCol_ok {t:Value} {c c':Col} {e n:Nat} {v:Value} (h:setCol t c e v=some c') (hc:colOk t c n) (he:e<n) :
  colOk t c' n/\flat v=true/\v.oneCell'=true/\∀ e',e'<n->cellVal t c' e'=if e'=e then v else cellVal t c e':=by
 unfold setCol at h;split at h
 ·split at h
  ·rename_i k _ k' x hk;subst hk;injection h with h
   subst h;refine⟨by simpa [colOk] using hc,rfl,rfl,fun e' he'=>?_⟩
   simp only[colOk] at hc;simp only[cellVal,List.getD_eq_getElem?_getD,List.getElem?_set]
   by_cases heq:e=e'
   ·subst heq;simp[hc,he]
   ·simp[heq,Ne.symm heq,fun h=>heq (Eq.symm h)]
  ·cases h
 ·injection h with h
  subst h;refine⟨by simpa [colOk] using hc,rfl,rfl,fun e' he'=>?_⟩
  simp only[colOk] at hc;simp only[cellVal,List.getD_eq_getElem?_getD,List.getElem?_set]
  by_cases heq:e=e'
  ·subst heq;simp[hc,he]
  ·simp[heq,Ne.symm heq,fun h=>heq (Eq.symm h)]
 ·injection h with h
  subst h;refine⟨by simpa [colOk] using hc,rfl,rfl,fun e' he'=>?_⟩
  simp only[colOk] at hc;simp only[cellVal,List.getD_eq_getElem?_getD,List.getElem?_set]
  by_cases heq:e=e'
  ·subst heq;simp[hc,he]
  ·simp[heq,Ne.symm heq,fun h=>heq (Eq.symm h)]
 ·cases h
theorem place_eq {s e e' f f':Nat} (hf:f<s) (hf':f'<s) (h:e*s+f=e'*s+f'):e=e'/\f=f':=by
 have h1:(e*s+f) / s=e:=by rw[Nat.add_comm,Nat.add_mul_div_right _ _ (by omega),Nat.div_eq_of_lt hf,Nat.zero_add]
 have h2:(e'*s+f') / s=e':=by rw[Nat.add_comm,Nat.add_mul_div_right _ _ (by omega),Nat.div_eq_of_lt hf',Nat.zero_add]
 have:e=e':=by rw[← h1,← h2,h]
 subst this;exact⟨rfl,by omega⟩
theorem setCol_row {r:Row} {arr:Array Value} {o e f:Nat} {t:Value} {c c':Col} {v:Value} (hr:RowIn r arr o) (ht:r.tm[f]?=some t) (hc:r.cols[f]?=some c) (he:e<r.n)
  (hs:setCol t c e v=some c'):RowIn { r with cols:=r.cols.set f c' } (arr.setIfInBounds (o+(e*r.tm.length+f)) v) o:=by
 obtain⟨k1,k2,k3,k4⟩:=setCol_ok hs (hr.col f t c ht hc) he;have hfl:f<r.tm.length:=(List.getElem?_eq_some_iff.1 ht).1;have hcl:f<r.cols.length:=(List.getElem?_eq_some_iff.1 hc).1;refine⟨by simpa using hr.len,fun f' t' c1 h1 h2=>?_,fun f' t' c1 e' h1 h2 h3=>?_⟩
 ·simp only at h1 h2
  by_cases hff:f=f'
  ·subst hff;rw[ht] at h1;injection h1 with h1;subst h1
   rw[List.getElem?_set_self hcl] at h2;injection h2 with h2;subst h2
   exact k1
  ·rw[List.getElem?_set_ne hff] at h2;exact hr.col f' t' c1 h1 h2
 ·simp only at h1 h2 h3 ⊢;have hfl':f'<r.tm.length:=(List.getElem?_eq_some_iff.1 h1).1;rw[Array.getElem?_setIfInBounds];have hold:=hr.cell f' t'
  by_cases hff:f=f'
  ·subst hff;rw[ht] at h1;injection h1 with h1;subst h1
   rw[List.getElem?_set_self hcl] at h2;injection h2 with h2;subst h2
   rw[k4 e' h3];have h5:=hr.cell f t c e' ht hc h3;have hlt:o+(e'*r.tm.length+f)<arr.size:=(Array.getElem?_eq_some_iff.1 h5).1
   by_cases hee:e'=e
   ·subst hee;simp[hlt]
   ·rw[if_neg hee,if_neg (fun hh=>hee (place_eq hfl hfl (by omega:e'*r.tm.length+f=e*r.tm.length+f)).1)]
    exact h5
  ·rw[List.getElem?_set_ne hff] at h2;rw[if_neg (fun hh=>hff (place_eq hfl hfl' (by omega:e*r.tm.length+f=e'*r.tm.length+f')).2)]
   exact hr.cell f' t' c1 e' h1 h2 h3
theorem setCols_row {tm:List Value} {n o e:Nat} (he:e<n):∀ {vs:List Value} {f:Nat} {cols cols':List Col} {arr:Array Value},RowIn ⟨tm,n,cols⟩ arr o->setCols tm cols e f vs=some cols' ->
  RowIn ⟨tm,n,cols'⟩ (setMany arr (o+(e*tm.length+f)) vs) o/\(∀ v∈vs,flat v=true/\v.oneCell'=true)/\(vs=[]∨f+vs.length≤tm.length)
 |[],f,cols,cols',arr,hr,h=>by
  simp only[setCols] at h;injection h with h
  subst h;exact⟨hr,(fun v hv=>by cases hv),Or.inl rfl⟩
 |v::l,f,cols,cols',arr,hr,h=>by
  simp only[setCols] at h;split at h
  ·rename_i t c ht hc;split at h
   ·rename_i c' hs;obtain⟨h1,h2,h3⟩:=setCols_row (tm:=tm) (n:=n) (o:=o) (e:=e) he (f:=f+1) (setCol_row hr ht hc he hs) h;obtain⟨_,k2,k3,_⟩:=setCol_ok hs (hr.col f t c ht hc) he;have hfl:f<tm.length:=(List.getElem?_eq_some_iff.1 ht).1;refine⟨h1,fun u hu=>?_,Or.inr ?_⟩
    ·rcases List.mem_cons.1 hu with rfl|hu
     ·exact⟨k2,k3⟩
     ·exact h2 u hu
    ·rcases h3 with rfl|h3
     ·simp only[List.length_cons,List.length_nil];omega
     ·simp only[List.length_cons];omega
   ·cases h
  ·cases h
def opStore (P:Program) (σ:SS R) (t:TypeId) (y z:Operand):Option (Out R) :=
 match ev σ.tm y,ev σ.tm z with
 |some (.pointer (some ⟨i,e,none⟩)),some v =>
  match σ.hp[i]?,P.info? t with
  |some (some (.inl (ty,cs))),some inf =>
   if Nat.beq v.cells.toList.length inf.size&&Nat.ble (e+inf.size) cs.length&&oneL v.cells.toList then
    some ⟨True,undef,none,σ.hp.set i (some (.inl (ty,setL cs e v.cells.toList))),[],locs i e inf.size⟩
   else none
  |_,_=>none
 |some (.pointer (some ⟨i,e,some q⟩)),some v =>
  match σ.hp[i]?,P.info? t with
  |some (some (.inr (.inl (ty,r)))),some inf =>
   if Nat.beq v.cells.toList.length inf.size&&Nat.beq (q / 1000) r.tm.length&&Nat.blt q 1000000&&Nat.blt 0 inf.size then
    match setCols r.tm r.cols e (q%1000) v.cells.toList with
    |some cols=>some ⟨e<r.n,undef,none,σ.hp.set i (some (.inr (.inl (ty,{ r with cols:=cols })))),[],locs i (q%1000) inf.size⟩
    |none=>none
   else none
  |_,_=>none
 |_,_=>none
theorem cells_inb {n:Nat} {v:Value} (h:inb n v=true):inbL n v.cells.toList=true:=by
 cases v with
 |agg cs=>obtain⟨l⟩:=cs;simpa [inb,Value.cells] using h
 |_=>simp only[Value.cells,inbL,h];rfl
theorem opStore_ok {σ:SS R} {o:Oper} {t:TypeId} {y z:Operand} {x:Out R} (ho:o.op=.store t y z) (hd:o.dst=none) (h:opStore P σ t y z=some x):OpOk D P o σ x:=by
 unfold opStore at h;split at h
 ·rename_i i e v ha hb;split at h
  ·rename_i ty cs inf hi hinf;split at h
   ·rename_i hc;simp only[Bool.and_eq_true] at hc;have hsz:=Nat.eq_of_beq_eq_true hc.1.1;have hle:=Nat.le_of_ble_eq_true hc.1.2;have hone:=oneL_mem hc.2;injection h with h
    subst h;refine⟨fun C ρ ft ac w K Q ht hli hm _ hK=>?_,by simp,fun _ b hb=>by cases hb⟩
    have h1:=(ev_eval ht ha).1;obtain⟨h2,h2'⟩:=ev_eval ht hb;simp only[ren,renA,cellOf] at h1;obtain⟨g1,g2,g3⟩:=(hm.at_ i _ hi).1;have hvl:((ren ρ v).cells.toList)=v.cells.toList.map (ren ρ):=by rw[cells_ren];simp
    have hst:=run_storeMany (P:=P) (ρ i).blk e ty (v.cells.toList.map (ren ρ)) 0 _ w g3 (by have:=hsz;simp only[Array.length_toList] at this;simp;omega) (fun u hu=>by
     obtain⟨u',hu',rfl⟩:=List.mem_map.1 hu;rw[oneCell_ren];exact hone u' hu')
    simp only[Nat.add_zero] at hst;rw[setMany_map] at hst;have hrun:(execOp ac.eval o).run P w=.ok .skip (w.setRow (ρ i).blk ((setL cs e v.cells.toList).map (ren ρ)).toArray):=by
     have hsz2:(ren ρ v).cells.size=inf.size:=by rw[← Array.length_toList,hvl];simpa using hsz
     simp only[execOp,ho,h1,h2,Instr.storeAt,Instr.sureAddr,storeVar,Sem.run_bind,Sem.run_pure,Result.andThen_ok,sizeOf,typeInfo,run_program,hinf,hsz2,ne_eq,not_true_eq_false,if_false,g1,Nat.zero_add,hvl,hst]
    refine wp_skip' hrun (hK ρ (upd ft i (ft i)) _ (fun _ _=>rfl) ?_)
    refine hm.put hi (kept_setRow _ _ _ ((g2 _).2 rfl)) _ _ ⟨g1,g2,setRow_heap w _ _ _ _ _ g3⟩ (setL_inb _ _ (hm.at_ i _ hi).2 (cells_inb h2')) (fun k hk=>⟨Or.inl hk,by simpa [World.setRow] using hm.lt i k hk⟩)
   ·cases h
  ·cases h
 ·rename_i i e q v ha hb;split at h
  ·rename_i ty r inf hi hinf;split at h
   ·rename_i hc;simp only[Bool.and_eq_true,Nat.blt_eq] at hc;have hsz:=Nat.eq_of_beq_eq_true hc.1.1.1;have hq:=Nat.eq_of_beq_eq_true hc.1.1.2;have hq2:=hc.1.2;have hq3:=hc.2;split at h
    ·rename_i cols hcols;injection h with h
     subst h;refine⟨fun C ρ ft ac w K Q ht hli hm he hK=>?_,by simp,fun _ b hb=>by cases hb⟩
     have h1:=(ev_eval ht ha).1;obtain⟨h2,h2'⟩:=ev_eval ht hb;have e1:q%1000000 / 1000=r.tm.length:=by omega
     simp only[ren,renA,cellOf,e1] at h1;obtain⟨g1,g2,g3,g4,g4',arr,g56,g7⟩:=(hm.at_ i _ hi).1;have hnn:(ρ i).nil=false:=by
      cases hqq:(ρ i).nil with
      |false=>rfl
      |true=>have:=g4' hqq;have:e<r.n:=he;omega
     obtain⟨g5,g6⟩:=g56 hnn;obtain⟨k1,k2,k3⟩:=setCols_row (tm:=r.tm) (n:=r.n) he (arr:=arr) g7 hcols;have hvl:((ren ρ v).cells.toList)=v.cells.toList:=by
      rw[cells_ren];rw[Array.toList_map]
      conv=>rhs;rw[← List.map_id v.cells.toList]
      exact List.map_congr_left fun u hu=>flat_ren u (k2 u hu).1
     have hfit:(ρ i).off+(e*r.tm.length+q%1000)+0+v.cells.toList.length≤arr.size:=by
      have hmul:(e+1)*r.tm.length≤(ρ i).cap*r.tm.length:=Nat.mul_le_mul_right _ (by have:e<r.n:=he;omega)
      rw[Nat.add_mul,Nat.one_mul] at hmul;rw[g6];rcases k3 with k3|k3
      ·rw[k3] at hsz;simp at hsz;omega
      ·omega
     have hst:=run_storeMany (P:=P) (ρ i).blk ((ρ i).off+(e*r.tm.length+q%1000)) ty v.cells.toList 0 arr w g5 hfit (fun u hu=>(k2 u hu).2)
     simp only[Nat.add_zero] at hst;have hrun:(execOp ac.eval o).run P w=.ok .skip (w.setRow (ρ i).blk (setMany arr ((ρ i).off+(e*r.tm.length+q%1000)) v.cells.toList)):=by
      have hsz2:(ren ρ v).cells.size=inf.size:=by rw[← Array.length_toList,hvl];exact hsz
      simp only[execOp,ho,h1,h2,Instr.storeAt,Instr.sureAddr,storeVar,Sem.run_bind,Sem.run_pure,Result.andThen_ok,sizeOf,typeInfo,run_program,hinf,hsz2,ne_eq,not_true_eq_false,if_false,hvl,hst]
     refine wp_skip' hrun (hK ρ (upd ft i (ft i)) _ (fun _ _=>rfl) ?_)
     exact hm.put hi (kept_setRow _ _ _ ((g1 _).2 ⟨hnn,rfl⟩)) _ _ ⟨g1,g2,g3,g4,g4',_,fun _=>⟨setRow_heap w _ _ _ _ _ g5,by rw[setMany_size];exact g6⟩,k1⟩ trivial (fun k hk=>⟨Or.inl hk,by simpa [World.setRow] using hm.lt i k hk⟩)
    ·cases h
   ·cases h
  ·cases h
 ·cases h
end
end Rx
namespace Rx
open Go.RowKit State
section
variable {R:Type} {D:Res R} {P:Program} {C:Ctx} {ρ:Env} {ft:Nat->Nat->Prop} {w w':World}
def newCells (σ:SS R) (t:TypeId) (cs:List Value):Option (Out R) :=
 some ⟨True,.pointer (some ⟨σ.hp.length,0,none⟩),none,σ.hp++[some (.inl (t,cs))],[],[(σ.hp.length,0)]⟩
theorem newCells_ok {σ:SS R} {o:Oper} {t:TypeId} {cs:List Value} {x:Out R}
  (hrun:∀ (ρ:Env) (a:Act) (w:World),TM ρ σ.hp.length σ.tm a->(execOp a.eval o).run P w=.ok (.value (.pointer (some ⟨w.heap.size,0,none⟩))) (w.alloc (.cells (cs.map (ren ρ)).toArray t))/\inbL σ.hp.length cs=true)
  (h:newCells σ t cs=some x):OpOk D P o σ x:=by
 unfold newCells at h;injection h with h
 subst h;refine⟨fun C ρ ft a w K Q ht hli hm _ hK=>?_,by simp,fun _ b hb=>by cases hb⟩
 obtain⟨h1,h2⟩:=hrun ρ a w ht;have hren:cs.map (ren (upd ρ σ.hp.length ⟨w.heap.size,0,0,false⟩))=cs.map (ren ρ) :=
  List.map_congr_left fun v hv=>ren_congr (n:=σ.hp.length) (fun i hi=>upd_lt _ _ _ hi) v (inbL_iff.1 h2 v hv)
 have hp:=hm.push (D:=D) ⟨w.heap.size,0,0,false⟩ (.cells (cs.map (ren ρ)).toArray t) rfl (.inl (t,cs)) (by
  refine⟨by rw[upd_same],fun k=>by rw[upd_same],?_⟩
  rw[upd_same,hren];exact heap_alloc_new w _) (inbL_mono (Nat.le_succ _) _ h2)
 refine wp_value h1 ?_;have:=hK _ _ _ (fun i hi=>upd_lt ρ σ.hp.length ⟨w.heap.size,0,0,false⟩ hi) hp
 simpa [ren,renA,upd_same,cellOf] using this
def opAlloc (P:Program) (σ:SS R) (t:TypeId):Option (Out R) :=
 match P.info? t with
 |some i=>match i.zero with
  |some z=>if flatL z.cells.toList then newCells σ t z.cells.toList else none
  |none=>none
 |none=>none
theorem flat_map {l:List Value} (h:flatL l=true):l.map (ren ρ)=l:=by
 conv=>rhs;rw[← List.map_id l]
 exact List.map_congr_left fun v hv=>flat_ren v (flatL_iff.1 h v hv)
theorem opAlloc_ok {σ:SS R} {o:Oper} {t:TypeId} {x:Out R} (ho:o.op=.alloc t) (h:opAlloc P σ t=some x):OpOk D P o σ x:=by
 unfold opAlloc at h;split at h
 ·rename_i i hi;split at h
  ·rename_i z hz;split at h
   ·rename_i hf;refine newCells_ok (fun ρ a w ht=>⟨?_,flat_inbL _ hf⟩) h
    rw[flat_map hf];simp[execOp,ho,Instr.alloc,zeroValue,typeInfo,hi,hz,newVar,newRow]
   ·cases h
  ·cases h
 ·cases h
def opBox (σ:SS R) (t:TypeId) (y:Operand):Option (Out R) :=
 match ev σ.tm y with
 |some v=>newCells σ t v.cells.toList
 |none=>none
theorem opBox_ok {σ:SS R} {o:Oper} {t:TypeId} {y:Operand} {x:Out R} (ho:o.op=.box t y) (h:opBox σ t y=some x):OpOk D P o σ x:=by
 unfold opBox at h;split at h
 ·rename_i v hv;refine newCells_ok (fun ρ a w ht=>?_) h
  obtain⟨h1,h2⟩:=ev_eval ht hv;refine⟨?_,cells_inb h2⟩;have:(ren ρ v).cells=(v.cells.toList.map (ren ρ)).toArray:=by rw[cells_ren];apply Array.ext';simp
  simp[execOp,ho,Instr.box,newVar,newRow,h1,this]
 ·cases h
def evParts (tm:List (Option Value)):List (Nat×Operand)->Option (List (Nat×Value))
 |[]=>some []
 |(i,y)::l =>
  match ev tm y,evParts tm l with
  |some v,some r=>some ((i,v)::r)
  |_,_=>none
theorem evParts_map {tm:List (Option Value)} {n:Nat} {a:Act} (ht:TM ρ n tm a):∀ {l:List (Nat×Operand)} {r:List (Nat×Value)},evParts tm l=some r ->
  l.map (fun(i,y)=>(i,a.eval y))=r.map (fun(i,v)=>(i,ren ρ v))/\∀ p∈r,inb n p.2=true
 |[],r,h=>by
  simp only[evParts] at h;injection h with h
  subst h;exact⟨rfl,fun p hp=>by cases hp⟩
 |(i,y)::l,r,h=>by
  simp only[evParts] at h;split at h
  ·rename_i v r' hv hr;injection h with h
   subst h;obtain⟨h1,h2⟩:=ev_eval ht hv;obtain⟨h3,h4⟩:=evParts_map ht hr;refine⟨by simp only[List.map_cons,h1,h3],fun p hp=>?_⟩
   rcases List.mem_cons.1 hp with rfl|hp
   ·exact h2
   ·exact h4 p hp
  ·cases h
def fillL (place:Nat->Option (Nat×Nat)) (cs:List Value):List (Nat×Value)->Option (List Value)
 |[]=>some cs
 |(i,v)::rest =>
  match place i with
  |none=>none
  |some (off,size) =>
   if Nat.beq v.cells.toList.length size&&Nat.ble (off+size) cs.length then fillL place (setL cs off v.cells.toList) rest else none
theorem foldl_setMany (vs:List Value):∀ (k:Nat) (cur:Array Value) (off:Nat),(vs.zipIdx k).foldl (fun cs (x:Value×Nat)=>cs.setIfInBounds (off+x.2) x.1) cur=setMany cur (off+k) vs:=by
 induction vs with
 |nil=>intro k cur off;rfl
 |cons v l ih=>intro k cur off;simp only[List.zipIdx_cons,List.foldl_cons,setMany];rw[ih];simp[Nat.add_assoc]
theorem fillL_fill {place:Nat->Option (Nat×Nat)}:∀ {rest:List (Nat×Value)} {cs r:List Value},fillL place cs rest=some r ->
  Instr.fill place (cs.map (ren ρ)).toArray (rest.map fun(i,v)=>(i,ren ρ v))=some (r.map (ren ρ)).toArray/\r.length=cs.length
 |[],cs,r,h=>by
  simp only[fillL] at h;injection h with h
  subst h;exact⟨rfl,rfl⟩
 |(i,v)::rest,cs,r,h=>by
  simp only[fillL] at h;split at h
  ·cases h
  ·rename_i off size hp;split at h
   ·rename_i hc;simp only[Bool.and_eq_true] at hc;have h1:=Nat.eq_of_beq_eq_true hc.1;have h2:=Nat.le_of_ble_eq_true hc.2;obtain⟨h3,h4⟩:=fillL_fill h;refine⟨?_,by rw[h4,setL_length]⟩
    simp only[List.map_cons,Instr.fill,hp];have hsz:(ren ρ v).cells.size=size:=by rw[cells_ren];simpa using h1
    rw[if_neg (by simp[hsz];omega)]
    rw[← h3]
    congr 1
    have:(ren ρ v).cells=(v.cells.toList.map (ren ρ)).toArray:=by rw[cells_ren];apply Array.ext';simp
    rw[this];have e:=foldl_setMany (v.cells.toList.map (ren ρ)) 0 (cs.map (ren ρ)).toArray off;rw[Nat.add_zero,setMany_map] at e;rw[← e];simp[← Array.foldl_toList]
   ·cases h
def sizesOf (P:Program):List Field->Option (List (Nat×Nat))
 |[]=>some []
 |f::fs =>
  match P.info? f.type,sizesOf P fs with
  |some i,some r=>some ((f.offset,i.size)::r)
  |_,_=>none
theorem sizesOf_mapM (w:World):∀ {fs:List Field} {r:List (Nat×Nat)},sizesOf P fs=some r->(fs.mapM (m:=Sem) fun f=>do pure (f.offset,← sizeOf f.type)).run P w=.ok r w
 |[],r,h=>by
  simp only[sizesOf] at h;injection h with h
  subst h;simp
 |f::fs,r,h=>by
  simp only[sizesOf] at h;split at h
  ·rename_i i r' hi hr;injection h with h
   subst h;have ih:=sizesOf_mapM w hr;simp[sizeOf,typeInfo,hi] at ih ⊢;simp[ih]
  ·cases h
def opBuild (P:Program) (σ:SS R) (t:TypeId) (parts:List (Nat×Operand)):Option (Out R) :=
 match P.info? t,P.underlying t,evParts σ.tm parts with
 |some i,some (.struct ⟨fs⟩),some ps =>
  match i.zero,sizesOf P fs with
  |some z,some sz =>
   if flatL z.cells.toList then
    match fillL (fun k=>sz[k]?) z.cells.toList ps with
    |some cs=>some (quietOut σ True (.agg ⟨cs⟩) none [])
    |none=>none
   else none
  |_,_=>none
 |some i,some (.array _ elem),some ps =>
  match i.zero,P.info? elem with
  |some z,some ie =>
   if flatL z.cells.toList then
    match fillL (fun k=>some (k*ie.size,ie.size)) z.cells.toList ps with
    |some cs=>some (quietOut σ True (.agg ⟨cs⟩) none [])
    |none=>none
   else none
  |_,_=>none
 |_,_,_=>none
theorem opBuild_ok {σ:SS R} {o:Oper} {t:TypeId} {parts:Array (Nat×Operand)} {x:Out R} (ho:o.op=.build t parts) (h:opBuild P σ t parts.toList=some x):OpOk D P o σ x:=by
 unfold opBuild at h;split at h
 ·rename_i i fs ps hi hu hps;split at h
  ·rename_i z sz hz hsz;split at h
   ·rename_i hf;split at h
    ·rename_i cs hcs;injection h with h
     subst h;refine quiet_ok (fun C ρ ft a w ht hli hm _=>?_) (fun hli c hc=>by cases hc)
     obtain⟨h1,h2⟩:=evParts_map ht hps;obtain⟨h3,h4⟩:=fillL_fill (ρ:=ρ) hcs;rw[flat_map hf] at h3;have hpl:(parts.map fun(i,y)=>(i,a.eval y)).toList=ps.map fun(i,v)=>(i,ren ρ v):=by
      rw[Array.toList_map];exact h1
     have hm2:=sizesOf_mapM w hsz;have hm3:((⟨fs⟩:Array Field).mapM (m:=Sem) fun f=>do pure (f.offset,← sizeOf f.type)).run P w=.ok ⟨sz⟩ w:=by
      rw[Array.mapM_eq_mapM_toList,Sem.run_map,hm2];simp
     have hplace:(fun(k:Nat)=>(⟨sz⟩:Array (Nat×Nat))[k]?)=fun(k:Nat)=>sz[k]?:=by funext k;simp
     simp only[execOp,ho,Instr.build,zeroValue,typeInfo,Sem.run_bind,run_program,Result.andThen_ok,hi,Sem.run_pure,hz,run_underlying hu,hm3,hpl,hplace];simp only[Array.toArray_toList] at h3;rw[h3,ren_agg];simp
    ·cases h
   ·cases h
  ·cases h
 ·rename_i i q elem ps hi hu hps;split at h
  ·rename_i z ie hz hie;split at h
   ·rename_i hf;split at h
    ·rename_i cs hcs;injection h with h
     subst h;refine quiet_ok (fun C ρ ft a w ht hli hm _=>?_) (fun hli c hc=>by cases hc)
     obtain⟨h1,h2⟩:=evParts_map ht hps;obtain⟨h3,h4⟩:=fillL_fill (ρ:=ρ) hcs;rw[flat_map hf] at h3;have hpl:(parts.map fun(i,y)=>(i,a.eval y)).toList=ps.map fun(i,v)=>(i,ren ρ v):=by
      rw[Array.toList_map];exact h1
     simp only[execOp,ho,Instr.build,zeroValue,typeInfo,sizeOf,Sem.run_bind,run_program,Result.andThen_ok,hi,hie,Sem.run_pure,hz,run_underlying hu,hpl];simp only[Array.toArray_toList] at h3;rw[h3,ren_agg];simp
    ·cases h
   ·cases h
  ·cases h
 ·cases h
end
end Rx
namespace Rx
open Go.RowKit State
section
variable {R:Type} {D:Res R} {P:Program} {C:Ctx} {ρ:Env} {ft:Nat->Nat->Prop} {w w':World}
def takeCol (t:Value):List Value->Option Col
 |[]=>match t with
  |.int _ _|.bool _|.string _=>some noCol
  |_=>none
 |v::l =>
  match t,v,takeCol t l with
  |.int k _,.int k' x,some c=>if k=k' then some { c with i:=x::c.i } else none
  |.bool _,.bool x,some c=>some { c with b:=x::c.b }
  |.string _,.string x,some c=>some { c with s:=x::c.s }
  |_,_,_=>none
theorem takeCol_ok {t:Value}:∀ {l:List Value} {c:Col},takeCol t l=some c->colOk t c l.length/\∀ (e:Nat),e<l.length->l[e]?=some (cellVal t c e)
 |[],c,h=>by
  simp only[takeCol] at h;split at h
  ·injection h with h;subst h;exact⟨rfl,fun e he=>by simp at he⟩
  ·injection h with h;subst h;exact⟨rfl,fun e he=>by simp at he⟩
  ·injection h with h;subst h;exact⟨rfl,fun e he=>by simp at he⟩
  ·cases h
 |v::l,c,h=>by
  simp only[takeCol] at h;split at h
  ·rename_i k _ k' x c' hc;split at h
   ·rename_i hk;subst hk;injection h with h
    subst h;obtain⟨h1,h2⟩:=takeCol_ok hc;refine⟨by simpa [colOk] using h1,fun e he=>?_⟩
    cases e with
    |zero=>simp[cellVal]
    |succ e =>
     have:=h2 e (by simpa using he)
     simpa [cellVal] using this
   ·cases h
  ·rename_i x c' hc;injection h with h
   subst h;obtain⟨h1,h2⟩:=takeCol_ok hc;refine⟨by simpa [colOk] using h1,fun e he=>?_⟩
   cases e with
   |zero=>simp[cellVal]
   |succ e =>
    have:=h2 e (by simpa using he)
    simpa [cellVal] using this
  ·rename_i x c' hc;injection h with h
   subst h;obtain⟨h1,h2⟩:=takeCol_ok hc;refine⟨by simpa [colOk] using h1,fun e he=>?_⟩
   cases e with
   |zero=>simp[cellVal]
   |succ e =>
    have:=h2 e (by simpa using he)
    simpa [cellVal] using this
  ·cases h
def stride (cells:List Value) (s f:Nat):Nat->List Value
 |0=>[]
 |n+1=>stride cells s f n++[(cells[n*s+f]?).getD undef]
theorem stride_get (cells:List Value) (s f:Nat):∀ (n:Nat),(stride cells s f n).length=n/\∀ e,e<n->(stride cells s f n)[e]?=some ((cells[e*s+f]?).getD undef)
 |0=>⟨rfl,fun e he=>by omega⟩
 |n+1=>by
  obtain⟨h1,h2⟩:=stride_get cells s f n;refine⟨by simp[stride,h1],fun e he=>?_⟩
  simp only[stride];rcases Nat.lt_or_ge e n with hlt|hge
  ·rw[List.getElem?_append_left (by omega)]
   exact h2 e hlt
  ·have:e=n:=by omega
   subst this;rw[List.getElem?_append_right (by omega),h1]
   simp
def takeCols (cells:List Value) (s n:Nat):Nat->List Value->Option (List Col)
 |_,[]=>some []
 |f,t::tm =>
  match takeCol t (stride cells s f n),takeCols cells s n (f+1) tm with
  |some c,some r=>some (c::r)
  |_,_=>none
theorem takeCols_ok {cells:List Value} {s n:Nat}:∀ {tm:List Value} {f0:Nat} {cols:List Col},takeCols cells s n f0 tm=some cols ->
  cols.length=tm.length/\∀ (f:Nat) (t:Value) (c:Col),tm[f]?=some t->cols[f]?=some c->colOk t c n/\∀ e,e<n->(cells[e*s+(f0+f)]?).getD undef=cellVal t c e
 |[],f0,cols,h=>by
  simp only[takeCols] at h;injection h with h
  subst h;exact⟨rfl,fun f t c h1 h2=>by simp at h1⟩
 |t0::tm,f0,cols,h=>by
  simp only[takeCols] at h;split at h
  ·rename_i c r hc hr;injection h with h
   subst h;obtain⟨h1,h2⟩:=takeCols_ok hr;refine⟨by simp[h1],fun f t c' g1 g2=>?_⟩
   cases f with
   |zero =>
    simp only[List.getElem?_cons_zero,Option.some.injEq] at g1 g2;subst g1;subst g2;obtain⟨k1,k2⟩:=takeCol_ok hc;obtain⟨s1,s2⟩:=stride_get cells s f0 n;rw[s1] at k1 k2;refine⟨k1,fun e he=>?_⟩
    have:=k2 e he;rw[s2 e he] at this;exact Option.some.inj this
   |succ f =>
    simp only[List.getElem?_cons_succ] at g1 g2;have:=h2 f t c' g1 g2;rw[show f0+(f+1)=f0+1+f by omega]
    exact this
  ·cases h
theorem HM.pushRow {h:Hp R} (hm:HM D C ρ ft h w) (t:TypeId) (r:Row) (arr:Array Value) (cap:Nat) (h0:0<r.tm.length) (hn:r.n≤cap) (hc:cap≤maxLen) (hs:arr.size=cap*r.tm.length) (hr:RowIn r arr 0) :
  HM D C (upd ρ h.length ⟨w.heap.size,0,cap,false⟩) (upd ft h.length (fun k=>k=w.heap.size)) (h++[some (.inr (.inl (t,r)))]) (w.alloc (.cells arr t)):=by
 refine hm.push ⟨w.heap.size,0,cap,false⟩ (.cells arr t) rfl (.inr (.inl (t,r))) ?_ trivial;simp only[hold,upd_same];exact⟨fun k=>by simp,h0,hn,hc,(fun h=>by cases h),arr,fun _=>⟨heap_alloc_new w _,by omega⟩,hr⟩
theorem HM.pushNil {h:Hp R} (hm:HM D C ρ ft h w) (t:TypeId) (r:Row) (h0:0<r.tm.length) (hn:r.n=0) (hl:r.cols.length=r.tm.length) (hc:∀ (f:Nat) (t:Value) (c:Col),r.tm[f]?=some t->r.cols[f]?=some c->colOk t c r.n) (b o:Nat) :
  HM D C (upd ρ h.length ⟨b,o,0,true⟩) ft (h++[some (.inr (.inl (t,r)))]) w:=by
 have hno:∀ k,¬ ft h.length k:=fun k hk=>by
  obtain⟨B,hB⟩:=hm.some_ _ _ hk;have:=(List.getElem?_eq_some_iff.1 hB).1;omega
 refine hm.step (fun _=>False) (Kept.refl _ _) (fun i hi=>upd_lt _ _ _ hi) (by simp) ?_ ?_ ?_ ?_
 ·intro i B' hi hB';have hge:h.length≤i:=Nat.le_of_not_lt hi;rw[List.getElem?_append_right hge] at hB';have:i=h.length:=by
   rcases Nat.lt_or_ge h.length i with hlt|hle
   ·rw[List.getElem?_eq_none (by simp;omega)] at hB';cases hB'
   ·omega
  subst this;simp at hB';subst hB';refine⟨?_,trivial⟩;simp only[hold,upd_same];exact⟨fun k=>by simp[hno k],h0,by omega,by unfold maxLen;omega,fun _=>trivial,#[],(fun h=>by cases h),hl,hc,fun f t c e _ _ he=>by omega⟩
 ·intro i hi _;exact⟨List.getElem?_append_left hi,fun k=>Iff.rfl⟩
 ·intro i k hi hk;obtain⟨B',hB'⟩:=hm.some_ i k hk;exact absurd (List.getElem?_eq_some_iff.1 hB').1 hi
 ·intro i j k hi hj hki hkj;exact hm.apart i j k hki hkj
def repL (tm:List Value):Nat->List Value
 |0=>[]
 |n+1=>repL tm n++tm
theorem repL_length (tm:List Value):∀ n,(repL tm n).length=n*tm.length
 |0=>by simp[repL]
 |n+1=>by simp[repL,repL_length tm n,Nat.add_mul]
theorem repL_get (tm:List Value) (h0:0<tm.length):∀ (n j:Nat),j<n*tm.length->(repL tm n)[j]?=tm[j%tm.length]?
 |0,j,hj=>by omega
 |n+1,j,hj=>by
  simp only[repL];rcases Nat.lt_or_ge j (n*tm.length) with hlt|hge
  ·rw[List.getElem?_append_left (by rw[repL_length];exact hlt)]
   exact repL_get tm h0 n j hlt
  ·rw[List.getElem?_append_right (by rw[repL_length];exact hge),repL_length]
   have:j%tm.length=j-n*tm.length:=by
    rw[Nat.add_mul,Nat.one_mul] at hj;obtain⟨d,rfl⟩:∃ d,j=n*tm.length+d:=⟨j-n*tm.length,by omega⟩
    rw[Nat.add_comm,Nat.add_mul_mod_self_right,Nat.mod_eq_of_lt (by omega)]
    omega
   rw[this]
theorem rep_eq (z:Array Value) (h0:0<z.size) (n:Nat):((Array.range (n*z.size)).map (z[·%z.size]!))=(repL z.toList n).toArray:=by
 apply Array.ext';apply List.ext_getElem?;intro j;simp only[Array.toList_map,Array.toList_range,List.getElem?_map]
 by_cases hj:j<n*z.size
 ·rw[repL_get z.toList (by simpa using h0) n j (by simpa using hj)]
  have hm:j%z.size<z.size:=Nat.mod_lt _ h0;simp[hj,hm]
 ·rw[List.getElem?_eq_none (by simpa using hj),List.getElem?_eq_none (by rw[repL_length];simpa using hj)]
  simp
def flatParts:List (Nat×Value)->Bool
 |[]=>true
 |(_,v)::l=>flat v&&flatParts l
theorem flatParts_map {l:List (Nat×Value)} (h:flatParts l=true):l.map (fun(i,v)=>(i,ren ρ v))=l:=by
 induction l with
 |nil=>rfl
 |cons p l ih =>
  obtain⟨i,v⟩:=p;simp only[flatParts,Bool.and_eq_true] at h;simp[ih h.2,flat_ren v h.1]
def elemOf (P:Program) (t:TypeId):Option (TypeId×List Value×Nat) :=
 match P.underlying t with
 |some (.slice el) =>
  match P.info? el with
  |some inf=>match inf.zero with
   |some z=>if flatL z.cells.toList&&Nat.beq inf.size z.cells.toList.length&&Nat.blt 0 inf.size&&Nat.blt inf.size 1000 then some (el,z.cells.toList,inf.bytes) else none
   |none=>none
  |none=>none
 |_=>none
theorem elemOf_ok {t el:TypeId} {tm:List Value} {by_:Nat} (h:elemOf P t=some (el,tm,by_)) :
  ∃ inf z,P.underlying t=some (.slice el)/\P.info? el=some inf/\inf.zero=some z/\z.cells.toList=tm/\inf.size=tm.length/\inf.bytes=by_/\flatL tm=true/\0<tm.length/\tm.length<1000:=by
 unfold elemOf at h;split at h
 ·rename_i el' hu;split at h
  ·rename_i inf hi;split at h
   ·rename_i z hz;split at h
    ·rename_i hc;simp only[Bool.and_eq_true,Nat.blt_eq] at hc;have h1:=Nat.eq_of_beq_eq_true hc.1.1.2;injection h with h
     injection h with h2 h3
     injection h3 with h3 h4
     subst h2;subst h3;subst h4;exact⟨inf,z,hu,hi,hz,rfl,h1,rfl,hc.1.1.1,by omega,by omega⟩
    ·cases h
   ·cases h
  ·cases h
 ·cases h
def opBuildSlice (P:Program) (σ:SS R) (t:TypeId) (len:Nat) (parts:List (Nat×Operand)):Option (Out R) :=
 match elemOf P t,evParts σ.tm parts with
 |some (el,tm,_),some ps =>
  if flatParts ps&&Nat.ble (len*tm.length) 1000000 then
   match fillL (fun i=>some (i*tm.length,tm.length)) (repL tm len) ps with
   |some cells=>match takeCols cells tm.length len 0 tm with
    |some cols=>some ⟨True,.slice (some ⟨σ.hp.length,0,some (1000*tm.length)⟩) len len,none,σ.hp++[some (.inr (.inl (el,⟨tm,len,cols⟩)))],[],[(σ.hp.length,0)]⟩
    |none=>none
   |none=>none
  else none
 |_,_=>none
theorem opBuildSlice_ok {σ:SS R} {o:Oper} {t:TypeId} {len:Nat} {parts:Array (Nat×Operand)} {x:Out R} (ho:o.op=.buildSlice t len parts) (h:opBuildSlice P σ t len parts.toList=some x):OpOk D P o σ x:=by
 unfold opBuildSlice at h;split at h
 ·rename_i el tm by_ ps he hps;obtain⟨inf,z,hu,hi,hz,htm,hsz,_,hfl,h0,h1k⟩:=elemOf_ok he;split at h
  ·rename_i hc;simp only[Bool.and_eq_true] at hc;have hle:=Nat.le_of_ble_eq_true hc.2;split at h
   ·rename_i cells hcells;split at h
    ·rename_i cols hcols;injection h with h
     subst h;refine⟨fun C ρ ft a w K Q ht hli hm _ hK=>?_,by simp,fun _ b hb=>by cases hb⟩
     obtain⟨h1,h2⟩:=evParts_map ht hps;rw[flatParts_map hc.1] at h1;obtain⟨h3,h4⟩:=fillL_fill (ρ:=ρ) hcells;rw[flatParts_map hc.1] at h3;have hrepf:flatL (repL tm len)=true:=by
      rw[flatL_iff];intro v hv;obtain⟨j,hj⟩:=List.getElem?_of_mem hv;have hjl:=(List.getElem?_eq_some_iff.1 hj).1;rw[repL_length] at hjl;rw[repL_get tm h0 len j hjl] at hj;exact flatL_iff.1 hfl v (List.mem_of_getElem? hj)
     rw[flat_map hrepf] at h3;have hpl:(parts.map fun(i,y)=>(i,a.eval y)).toList=ps:=by
      rw[Array.toList_map];exact h1
     have hzs:z.cells.size=tm.length:=by rw[← htm];simp
     have harr:(if len*inf.size=0 then #[] else z.cells:Array Value)=if len*tm.length=0 then #[] else z.cells:=by rw[hsz]
     have hzero:(Array.range (len*tm.length)).map ((if len*tm.length=0 then(#[]:Array Value) else z.cells)[·%(if len*tm.length=0 then(#[]:Array Value) else z.cells).size]!)=(repL tm len).toArray:=by
      by_cases hz0:len*tm.length=0
      ·have:len=0:=by
        rcases Nat.mul_eq_zero.1 hz0 with h|h
        ·exact h
        ·omega
       subst this;simp[repL]
      ·rw[if_neg hz0];have:=rep_eq z.cells (by omega) len
       rw[hzs,htm] at this;rw[hzs];exact this
     have hclen:cells.length=len*tm.length:=by rw[h4,repL_length]
     obtain⟨c1,c2⟩:=takeCols_ok hcols;have hcm:cells.map (ren ρ)=cells.map (ren ρ):=rfl;have hrow:RowIn ⟨tm,len,cols⟩ (cells.map (ren ρ)).toArray 0:=by
      refine⟨c1,fun f t c g1 g2=>(c2 f t c g1 g2).1,fun f t c e g1 g2 g3=>?_⟩
      have hfl':f<tm.length:=(List.getElem?_eq_some_iff.1 g1).1;have hlt:e*tm.length+f<cells.length:=by
       rw[hclen];have:=Nat.mul_le_mul_right tm.length (show e+1≤len from g3)
       rw[Nat.add_mul,Nat.one_mul] at this;omega
      obtain⟨k1,k2⟩:=c2 f t c g1 g2;have:=k2 e g3;rw[Nat.zero_add,List.getElem?_eq_getElem hlt,Option.getD_some] at this;rw[Nat.zero_add,List.getElem?_toArray,List.getElem?_map,List.getElem?_eq_getElem hlt,this];simp[flat_ren _ (cellVal_flat k1 e)]
     have hrun:(execOp a.eval o).run P w=.ok (.value (.slice (some ⟨w.heap.size,0,none⟩) len len)) (w.alloc (.cells (cells.map (ren ρ)).toArray el)):=by
      have hbig:¬ len*tm.length>2 ^ 24:=by omega
      simp only[execOp,ho,Instr.buildSlice,Sem.run_bind,run_underlying hu,Result.andThen_ok,sizeOf,typeInfo,run_program,hi,Sem.run_pure,hsz,if_neg hbig,hpl]
      by_cases hz0:len*tm.length=0
      ·rw[if_pos hz0] at hzero;rw[hz0] at hzero;simp only[hz0,if_true,Sem.run_bind,Sem.run_pure,Result.andThen_ok];rw[hzero,h3];simp[newRow]
      ·rw[if_neg hz0] at hzero;simp only[hz0,if_false,Sem.run_bind,zeroValue,typeInfo,run_program,Result.andThen_ok,hi,hz,Sem.run_pure];rw[hzero,h3];simp[newRow]
     refine wp_value hrun ?_;have hp:=hm.pushRow el ⟨tm,len,cols⟩ (cells.map (ren ρ)).toArray len h0 (Nat.le_refl _) (by
      have:len≤len*tm.length:=Nat.le_mul_of_pos_right _ h0;unfold maxLen;omega) (by simp[hclen]) hrow
     have:=hK _ _ _ (fun i hi=>upd_lt ρ σ.hp.length ⟨w.heap.size,0,len,false⟩ hi) hp
     have e1:1000*tm.length / 1000000=0:=by omega
     have e2:1000*tm.length%1000=0:=by omega
     simpa [ren,renS,renA,upd_same,cellOf,e1,e2] using this
    ·cases h
   ·cases h
  ·cases h
 ·cases h
def opBuildCells (P:Program) (σ:SS R) (t:TypeId) (len:Nat) (parts:List (Nat×Operand)):Option (Out R) :=
 match elemOf P t,evParts σ.tm parts with
 |some (el,tm,_),some ps =>
  if Nat.ble (len*tm.length) 1000000&&Nat.blt 0 len then
   match fillL (fun i=>some (i*tm.length,tm.length)) (repL tm len) ps with
   |some cells=>if inbL σ.hp.length cells then some ⟨True,.slice (some ⟨σ.hp.length,0,none⟩) len len,none,σ.hp++[some (.inl (el,cells))],[],[(σ.hp.length,0)]⟩ else none
   |none=>none
  else none
 |_,_=>none
theorem opBuildCells_ok {σ:SS R} {o:Oper} {t:TypeId} {len:Nat} {parts:Array (Nat×Operand)} {x:Out R} (ho:o.op=.buildSlice t len parts) (h:opBuildCells P σ t len parts.toList=some x):OpOk D P o σ x:=by
 unfold opBuildCells at h;split at h
 ·rename_i el tm by_ ps he hps;obtain⟨inf,z,hu,hi,hz,htm,hsz,_,hfl,h0,h1k⟩:=elemOf_ok he;split at h
  ·rename_i hc;simp only[Bool.and_eq_true,Nat.blt_eq] at hc;have hle:=Nat.le_of_ble_eq_true hc.1;have hpos:=hc.2;split at h
   ·rename_i cells hcells;split at h
    ·rename_i hin;injection h with h
     subst h;refine⟨fun C ρ ft a w K Q ht hli hm _ hK=>?_,by simp,fun _ b hb=>by cases hb⟩
     obtain⟨h1,h2⟩:=evParts_map ht hps;obtain⟨h3,h4⟩:=fillL_fill (ρ:=ρ) hcells;have hrepf:flatL (repL tm len)=true:=by
      rw[flatL_iff];intro v hv;obtain⟨j,hj⟩:=List.getElem?_of_mem hv;have hjl:=(List.getElem?_eq_some_iff.1 hj).1;rw[repL_length] at hjl;rw[repL_get tm h0 len j hjl] at hj;exact flatL_iff.1 hfl v (List.mem_of_getElem? hj)
     rw[flat_map hrepf] at h3;have hpl:(parts.map fun(i,y)=>(i,a.eval y)).toList=ps.map fun(i,v)=>(i,ren ρ v):=by
      rw[Array.toList_map];exact h1
     have hzs:z.cells.size=tm.length:=by rw[← htm];simp
     have hne:¬ len*tm.length=0:=by
      intro hz0;rcases Nat.mul_eq_zero.1 hz0 with h|h<;>omega
     have hzero:(Array.range (len*tm.length)).map (z.cells[·%z.cells.size]!)=(repL tm len).toArray:=by
      have:=rep_eq z.cells (by omega) len
      rw[hzs,htm] at this;rw[hzs];exact this
     have hrun:(execOp a.eval o).run P w=.ok (.value (.slice (some ⟨w.heap.size,0,none⟩) len len)) (w.alloc (.cells (cells.map (ren ρ)).toArray el)):=by
      have hbig:¬ len*tm.length>2 ^ 24:=by omega
      simp only[execOp,ho,Instr.buildSlice,Sem.run_bind,run_underlying hu,Result.andThen_ok,sizeOf,typeInfo,run_program,hi,Sem.run_pure,hsz,if_neg hbig,hpl];simp only[hne,if_false,Sem.run_bind,zeroValue,typeInfo,run_program,Result.andThen_ok,hi,hz,Sem.run_pure];rw[hzero,h3];simp[newRow]
     have hren:cells.map (ren (upd ρ σ.hp.length ⟨w.heap.size,0,0,false⟩))=cells.map (ren ρ) :=
      List.map_congr_left fun v hv=>ren_congr (n:=σ.hp.length) (fun i hi=>upd_lt _ _ _ hi) v (inbL_iff.1 hin v hv)
     have hp:=hm.push (D:=D) ⟨w.heap.size,0,0,false⟩ (.cells (cells.map (ren ρ)).toArray el) rfl (.inl (el,cells)) (by
      refine⟨by rw[upd_same],fun k=>by rw[upd_same],?_⟩
      rw[upd_same,hren];exact heap_alloc_new w _) (inbL_mono (Nat.le_succ _) _ hin)
     refine wp_value hrun ?_;have:=hK _ _ _ (fun i hi=>upd_lt ρ σ.hp.length ⟨w.heap.size,0,0,false⟩ hi) hp
     simpa [ren,renS,renA,upd_same,cellOf] using this
    ·cases h
   ·cases h
  ·cases h
 ·cases h
def zeroCol (t:Value) (n:Nat):Option Col :=
 match t with
 |.int _ x=>some { noCol with i:=List.replicate n x }
 |.bool x=>some { noCol with b:=List.replicate n x }
 |.string x=>some { noCol with s:=List.replicate n x }
 |_=>none
def zeroCols:List Value->Nat->Option (List Col)
 |[],_=>some []
 |t::tm,n =>
  match zeroCol t n,zeroCols tm n with
  |some c,some r=>some (c::r)
  |_,_=>none
theorem zeroCol_ok {t:Value} {n:Nat} {c:Col} (h:zeroCol t n=some c):colOk t c n/\∀ e,e<n->cellVal t c e=t:=by
 unfold zeroCol at h;split at h
 ·injection h with h;subst h
  exact⟨by simp[colOk],fun e he=>by simp[cellVal,List.getD_eq_getElem?_getD,he]⟩
 ·injection h with h;subst h
  exact⟨by simp[colOk],fun e he=>by simp[cellVal,List.getD_eq_getElem?_getD,he]⟩
 ·injection h with h;subst h
  exact⟨by simp[colOk],fun e he=>by simp[cellVal,List.getD_eq_getElem?_getD,he]⟩
 ·cases h
theorem zeroCols_ok:∀ {tm:List Value} {n:Nat} {cols:List Col},zeroCols tm n=some cols->cols.length=tm.length/\∀ (f:Nat) (t:Value) (c:Col),tm[f]?=some t->cols[f]?=some c->colOk t c n/\∀ e,e<n->cellVal t c e=t
 |[],n,cols,h=>by
  simp only[zeroCols] at h;injection h with h
  subst h;exact⟨rfl,fun f t c h1 _=>by simp at h1⟩
 |t0::tm,n,cols,h=>by
  simp only[zeroCols] at h;split at h
  ·rename_i c r hc hr;injection h with h
   subst h;obtain⟨h1,h2⟩:=zeroCols_ok hr;refine⟨by simp[h1],fun f t c' g1 g2=>?_⟩
   cases f with
   |zero =>
    simp only[List.getElem?_cons_zero,Option.some.injEq] at g1 g2;subst g1;subst g2;exact zeroCol_ok hc
   |succ f =>
    simp only[List.getElem?_cons_succ] at g1 g2;exact h2 f t c' g1 g2
  ·cases h
def opNilSlice (P:Program) (σ:SS R) (t:TypeId):Option (Out R) :=
 match elemOf P t with
 |some (el,tm,_)=>match zeroCols tm 0 with
  |some cols=>some ⟨True,.slice (some ⟨σ.hp.length,0,some (1000*tm.length)⟩) 0 0,none,σ.hp++[some (.inr (.inl (el,⟨tm,0,cols⟩)))],[],[(σ.hp.length,0)]⟩
  |none=>none
 |none=>none
theorem opNilSlice_ok {σ:SS R} {o:Oper} {t:TypeId} {n c:Nat} {y:Operand} {x:Out R} (ho:o.op=.move y∨o.op=.assign y) (hy:ev σ.tm y=some (.slice none 0 0)) (h:opNilSlice P σ t=some x):OpOk D P o σ x:=by
 unfold opNilSlice at h;split at h
 ·rename_i el tm by_ he;obtain⟨inf,z,hu,hi,hz,htm,hsz,_,hfl,h0,h1k⟩:=elemOf_ok he;split at h
  ·rename_i cols hcols;injection h with h
   subst h;refine⟨fun C ρ ft a w K Q ht hli hm _ hK=>?_,by simp,fun _ b hb=>by cases hb⟩
   obtain⟨c1,c2⟩:=zeroCols_ok hcols;have hv:=(ev_eval ht hy).1;have hrun:(execOp a.eval o).run P w=.ok (.value (.slice none 0 0)) w:=by
    simp only[ren] at hv;rcases ho with ho|ho<;>simp[execOp,ho,hv]
   refine wp_value hrun ?_;have hp:=hm.pushNil el ⟨tm,0,cols⟩ h0 rfl c1 (fun f t c g1 g2=>(c2 f t c g1 g2).1) 0 0
   have:=hK _ _ _ (fun i hi=>upd_lt ρ σ.hp.length ⟨0,0,0,true⟩ hi) hp
   simpa [ren,renS,upd_same] using this
  ·cases h
 ·cases h
def opMakeSlice (P:Program) (σ:SS R) (t:TypeId) (y z:Operand):Option (Out R) :=
 match elemOf P t,ev σ.tm y,ev σ.tm z with
 |some (el,tm,by_),some (.int _ l),some (.int _ c) =>
  match zeroCols tm l.toNat with
  |some cols=>some ⟨0≤l/\l≤c/\c*by_≤140737488355328/\c≤140737488355328,.slice (some ⟨σ.hp.length,0,some (1000*tm.length)⟩) l.toNat c.toNat,none,σ.hp++[some (.inr (.inl (el,⟨tm,l.toNat,cols⟩)))],[],[(σ.hp.length,0)]⟩
  |none=>none
 |_,_,_=>none
theorem opMakeSlice_ok {σ:SS R} {o:Oper} {t:TypeId} {y z:Operand} {x:Out R} (ho:o.op=.makeSlice t y z) (h:opMakeSlice P σ t y z=some x):OpOk D P o σ x:=by
 unfold opMakeSlice at h;split at h
 ·rename_i el tm by_ k l k' c he hl hcp;obtain⟨inf,zv,hu,hi,hz,htm,hsz,hby,hfl,h0,h1k⟩:=elemOf_ok he;split at h
  ·rename_i cols hcols;injection h with h
   subst h;refine⟨fun C ρ ft a w K Q ht hli hm hv hK=>?_,by simp,fun _ b hb=>by cases hb⟩
   obtain⟨v0,v1,v2,v3⟩:=hv;obtain⟨c1,c2⟩:=zeroCols_ok hcols;have h1:=(ev_eval ht hl).1;have h2:=(ev_eval ht hcp).1;simp only[ren_int] at h1 h2;obtain⟨ln,rfl⟩:=Int.eq_ofNat_of_zero_le v0;obtain⟨cn,rfl⟩:=Int.eq_ofNat_of_zero_le (Int.le_trans v0 v1);simp only[Int.toNat_natCast] at *
   have hzs:zv.cells.size=tm.length:=by rw[← htm];simp
   have hw1:IntKind.i64.wrap (ln:Int)=ln:=fits_wrap ⟨by omega,by omega⟩
   have hw2:IntKind.i64.wrap (cn:Int)=cn:=fits_wrap ⟨by omega,by omega⟩
   have harr:(Array.range (cn*tm.length)).map ((if cn*tm.length=0 then(#[]:Array Value) else zv.cells)[·%(if cn*tm.length=0 then(#[]:Array Value) else zv.cells).size]!)=(repL tm cn).toArray:=by
    by_cases hz0:cn*tm.length=0
    ·have:cn=0:=by
      rcases Nat.mul_eq_zero.1 hz0 with h|h
      ·exact h
      ·omega
     subst this;simp[repL]
    ·rw[if_neg hz0];have:=rep_eq zv.cells (by omega) cn
     rw[hzs,htm] at this;rw[hzs];exact this
   have hb2:(by_:Int)*(cn:Int)≤281474976710656:=by rw[Int.mul_comm];omega
   have hrun:(execOp a.eval o).run P w=.ok (.value (.slice (some ⟨w.heap.size,0,none⟩) ln cn)) (w.alloc (.cells (repL tm cn).toArray el)):=by
    simp only[execOp,ho,h1,h2,Instr.makeSlice,Sem.run_bind,run_underlying hu,Result.andThen_ok,asInt,asIntOf,Sem.run_pure,typeInfo,run_program,hi,hw1,hw2,hby];have hcond:(decide ((cn:Int)<0)||decide ((by_:Int)*(cn:Int)>2 ^ 48)||decide ((ln:Int)<0)||decide ((ln:Int)>(cn:Int)))=false:=by
     have e1:decide ((cn:Int)<0)=false:=decide_eq_false (by omega)
     have e2:decide ((by_:Int)*(cn:Int)>2 ^ 48)=false:=decide_eq_false (by omega)
     have e3:decide ((ln:Int)<0)=false:=decide_eq_false (by omega)
     have e4:decide ((ln:Int)>(cn:Int))=false:=decide_eq_false (by omega)
     rw[e1,e2,e3,e4];rfl
    simp only[hcond,Bool.false_eq_true,if_false,Sem.run_pure,Result.andThen_ok,run_askRoom,sizeOf,typeInfo,Sem.run_bind,run_program,hi,hsz,Int.toNat_natCast]
    by_cases hz0:cn*tm.length=0
    ·rw[if_pos hz0] at harr;rw[hz0] at harr;simp only[hz0,if_true,Sem.run_bind,Sem.run_pure,Result.andThen_ok];rw[harr];simp[newRow]
    ·rw[if_neg hz0] at harr;simp only[hz0,if_false,Sem.run_bind,zeroValue,typeInfo,run_program,Result.andThen_ok,hi,hz,Sem.run_pure];rw[harr];simp[newRow]
   refine wp_value hrun ?_;have hrow:RowIn ⟨tm,ln,cols⟩ (repL tm cn).toArray 0:=by
    refine⟨c1,fun f t c g1 g2=>(c2 f t c g1 g2).1,fun f t c e g1 g2 g3=>?_⟩
    have hfl':f<tm.length:=(List.getElem?_eq_some_iff.1 g1).1;have hlt:e*tm.length+f<cn*tm.length:=by
     have:=Nat.mul_le_mul_right tm.length (show e+1≤cn by have:e<ln:=g3;omega)
     rw[Nat.add_mul,Nat.one_mul] at this;omega
    rw[Nat.zero_add,List.getElem?_toArray,repL_get tm h0 cn _ hlt,(c2 f t c g1 g2).2 e g3];have:(e*tm.length+f)%tm.length=f:=by rw[Nat.add_comm,Nat.add_mul_mod_self_right,Nat.mod_eq_of_lt hfl']
    rw[this,g1]
   have hp:=hm.pushRow el ⟨tm,ln,cols⟩ (repL tm cn).toArray cn h0 (by simp only;omega) (by unfold maxLen;omega) (by simp[repL_length]) hrow
   have:=hK _ _ _ (fun i hi=>upd_lt ρ σ.hp.length ⟨w.heap.size,0,cn,false⟩ hi) hp
   have e1:1000*tm.length / 1000000=0:=by omega
   have e2:1000*tm.length%1000=0:=by omega
   simpa [ren,renS,renA,upd_same,cellOf,e1,e2] using this
  ·cases h
 ·cases h
end
end Rx
namespace Rx
open Go.RowKit State
section
variable {R:Type} {D:Res R} {P:Program} {C:Ctx} {ρ:Env} {ft:Nat->Nat->Prop} {w w':World}
def opLen (P:Program) (σ:SS R) (t:TypeId) (y:Operand):Option (Out R) :=
 match ev σ.tm y,P.underlying t with
 |some (.slice (some _) n _),some (.slice _)=>some (quietOut σ True (.int .i64 n) none [])
 |_,_=>none
theorem opLen_ok {σ:SS R} {o:Oper} {t:TypeId} {y:Operand} {x:Out R} (ho:o.op=.call { callee:=.builtin .len,args:=#[y],argTypes:=#[t] }) (h:opLen P σ t y=some x):OpOk D P o σ x:=by
 unfold opLen at h;split at h
 ·rename_i ad n c el ha hu;injection h with h
  subst h;refine quiet_ok (fun C ρ ft a w ht hli hm _=>?_) (fun hli c hc=>by cases hc)
  have h1:=(ev_eval ht ha).1;simp only[ren] at h1;obtain⟨A,c',e⟩:=renS_form (ρ:=ρ) ad n c;rw[e] at h1;simp[execOp,ho,resolve,invoke,builtin,h1,Builtin.len_,run_underlying hu,goInt]
 ·cases h
def byteAt (s:ByteArray) (i:Nat):Int:=((s.data.toList[i]?).getD 0).toNat
def opIndexStr (P:Program) (σ:SS R) (t:TypeId) (y z:Operand):Option (Out R) :=
 match ev σ.tm y,ev σ.tm z,P.underlying t with
 |some (.string s),some (.int _ j),some .string=>some (quietOut σ (0≤j/\j<s.size) (.int .u8 (byteAt s j.toNat)) none [])
 |_,_,_=>none
theorem opIndexStr_ok {σ:SS R} {o:Oper} {t:TypeId} {y z:Operand} {x:Out R} (ho:o.op=.index t y z) (h:opIndexStr P σ t y z=some x):OpOk D P o σ x:=by
 unfold opIndexStr at h;split at h
 ·rename_i s k j ha hb hu;injection h with h
  subst h;refine quiet_ok (fun C ρ ft a w ht hli hm hv=>?_) (fun hli c hc=>by cases hc)
  obtain⟨v0,v1⟩:=hv;have h1:=(ev_eval ht ha).1;have h2:=(ev_eval ht hb).1;simp only[ren_string] at h1;simp only[ren_int] at h2;have hlt:j.toNat<s.size:=by omega
  have hlt2:j.toNat<s.data.toList.length:=by simpa using hlt
  have hget:s[j.toNat]?=some (s[j.toNat]):=by simp[hlt]
  have hb:(s[j.toNat].toNat:Int)=byteAt s j.toNat:=by
   unfold byteAt;rw[List.getElem?_eq_getElem hlt2];simp
   rfl
  simp only[execOp,ho,h1,h2,Instr.index,asIntOf,Sem.run_bind,Sem.run_pure,Result.andThen_ok,run_underlying hu,v0,if_true,hget,ren_int,← hb]
 ·cases h
def evB (tm:List (Option Value)):Option Operand->Option (Option Int)
 |none=>some none
 |some y=>match ev tm y with
  |some (.int _ j)=>some (some j)
  |_=>none
theorem evB_eval {n:Nat} {tm:List (Option Value)} {a:Act} {y:Option Operand} {b:Option Int} (ht:TM ρ n tm a) (h:evB tm y=some b) :
  (∃ (k:IntKind),∃ j,b=some j/\y.map a.eval=some (.int k j))∨(b=none/\y.map a.eval=none):=by
 cases y with
 |none=>simp only[evB] at h;injection h with h;subst h;exact Or.inr ⟨rfl,rfl⟩
 |some y =>
  simp only[evB] at h;split at h
  ·rename_i k j hj;injection h with h
   subst h;have:=(ev_eval ht hj).1;simp only[ren_int] at this;exact Or.inl ⟨k,j,rfl,by simp[this]⟩
  ·cases h
theorem sliceBounds_run {isS:Bool} {len cap:Nat} {lo hi:Option Value} {l h:Int} (w:World)
  (hl:(∃ k,lo=some (.int k l))∨(lo=none/\l=0)) (hh:(∃ k,hi=some (.int k h))∨(hi=none/\h=len)) (h0:0≤l) (h1:l≤h) (h2:h≤cap) :
  (Instr.sliceBounds isS len cap lo hi none).run P w=.ok (l.toNat,h.toNat,cap) w:=by
 have hh0:0≤h:=by omega
 obtain⟨lN,rfl⟩:=Int.eq_ofNat_of_zero_le h0;obtain⟨hN,rfl⟩:=Int.eq_ofNat_of_zero_le hh0;have hA:hN≤cap:=by omega
 have hB:lN≤hN:=by omega
 rcases hl with⟨k,rfl⟩|⟨rfl,hl0⟩<;>rcases hh with⟨k',rfl⟩|⟨rfl,hhl⟩
 ·simp[Instr.sliceBounds,Instr.sliceBound,asIntOf,hA,hB]
 ·obtain rfl:hN=len:=by omega
  simp[Instr.sliceBounds,Instr.sliceBound,asIntOf,hA,hB]
 ·obtain rfl:lN=0:=by omega
  simp[Instr.sliceBounds,Instr.sliceBound,asIntOf,hA,hB]
 ·obtain rfl:hN=len:=by omega
  obtain rfl:lN=0:=by omega
  simp[Instr.sliceBounds]
def opSlice (P:Program) (σ:SS R) (t:TypeId) (y:Operand) (lo hi mx:Option Operand):Option (Out R) :=
 match mx with
 |some _=>none
 |none =>
  match ev σ.tm y,evB σ.tm lo,evB σ.tm hi with
  |some (.string s),some l,some h =>
   match P.underlying t with
   |some .string=>some (quietOut σ (0≤l.getD 0/\l.getD 0≤h.getD s.size/\h.getD s.size≤s.size) (.string (s.extract (l.getD 0).toNat (h.getD s.size).toNat)) none [])
   |_=>none
  |some (.slice (some ⟨i,e0,some q⟩) n c),some l,some h =>
   match elemOf P t,rowOf σ.hp[i]? with
   |some (el,tm,_),some r =>
    if Nat.beq (q%1000000) (1000*tm.length)&&Nat.beq tm.length r.tm.length then
     match l with
     |none=>some (quietOut σ (0≤h.getD n/\h.getD n≤n/\e0+n≤r.n) (.slice (some ⟨i,e0,some q⟩) (h.getD n).toNat c) none [])
     |some l=>match Nat.blt q 1000000 with
      |true=>some (quietOut σ (e0=0/\0≤l/\l≤h.getD n/\h.getD n≤n/\e0+n≤r.n) (.slice (some ⟨i,e0+l.toNat,some (1000*tm.length+1000000*(i+1))⟩) (h.getD n-l).toNat c) none [])
      |false=>some ⟨0≤l/\l≤h.getD n/\h.getD n≤n/\e0+n≤r.n,.slice (some ⟨i,e0+l.toNat,some (1000*tm.length+1000000*(σ.hp.length+1))⟩) (h.getD n-l).toNat c,none,σ.hp++[none],[],[(σ.hp.length,0)]⟩
    else none
   |_,_=>none
  |_,_,_=>none
theorem sel_hi {hi:Option Operand} {h:Option Int} {a:Act} {n:Nat} (hx:(∃ (k:IntKind),∃ j,h=some j/\hi.map a.eval=some (.int k j))∨(h=none/\hi.map a.eval=none)) :
  (∃ k,hi.map a.eval=some (.int k (h.getD n)))∨(hi.map a.eval=none/\h.getD n=n):=by
 rcases hx with⟨k,j,rfl,e⟩|⟨rfl,e⟩
 ·exact Or.inl ⟨k,by simpa using e⟩
 ·exact Or.inr ⟨e,rfl⟩
theorem sel_lo {lo:Option Operand} {l:Option Int} {a:Act} (hx:(∃ (k:IntKind),∃ j,l=some j/\lo.map a.eval=some (.int k j))∨(l=none/\lo.map a.eval=none)) :
  (∃ k,lo.map a.eval=some (.int k (l.getD 0)))∨(lo.map a.eval=none/\l.getD 0=0):=by
 rcases hx with⟨k,j,rfl,e⟩|⟨rfl,e⟩
 ·exact Or.inl ⟨k,by simpa using e⟩
 ·exact Or.inr ⟨e,rfl⟩
theorem slice_run {t el:TypeId} {A:Option Addr} {n cap:Nat} {lo hi:Option Value} {l h:Int} {inf:TypeInfo} (w:World) (hu:P.underlying t=some (.slice el)) (hinf:P.info? el=some inf)
  (hl:(∃ k,lo=some (.int k l))∨(lo=none/\l=0)) (hh:(∃ k,hi=some (.int k h))∨(hi=none/\h=n)) (h0:0≤l) (h1:l≤h) (h2:h≤cap) :
  (Instr.sliceAt t (.slice A n cap) lo hi none).run P w=.ok (.slice (if cap=l.toNat then A else A.map (·.add (l.toNat*inf.size))) (h.toNat-l.toNat) (cap-l.toNat)) w:=by
 have hb:=sliceBounds_run (P:=P) (isS:=true) (len:=n) (cap:=cap) w hl hh h0 h1 h2;simp[Instr.sliceAt,run_underlying hu,Instr.slice,hb,sizeOf,typeInfo,hinf]
theorem opSlice_ok {σ:SS R} {o:Oper} {t:TypeId} {y:Operand} {lo hi mx:Option Operand} {x:Out R} (ho:o.op=.slice t y lo hi mx) (h:opSlice P σ t y lo hi mx=some x):OpOk D P o σ x:=by
 unfold opSlice at h;split at h
 ·cases h
 ·split at h
  ·rename_i s l hh ha hl hhi;split at h
   ·rename_i hu;injection h with h
    subst h;refine quiet_ok (fun C ρ ft a w ht hli hm hv=>?_) (fun hli c hc=>by cases hc)
    obtain⟨v0,v1,v2⟩:=hv;have h1:=(ev_eval ht ha).1;simp only[ren_string] at h1;have hb:=sliceBounds_run (P:=P) (isS:=false) (len:=s.size) (cap:=s.size) w (sel_lo (evB_eval ht hl)) (sel_hi (n:=s.size) (evB_eval ht hhi)) v0 v1 v2;simp[execOp,ho,h1,Instr.sliceAt,run_underlying hu,Instr.slice,hb]
   ·cases h
  ·rename_i i e0 q n c l hh ha hl hhi;split at h
   ·rename_i el tm by_ r he hr;obtain⟨inf,z,hu,hinf,hz,htm,hsz,_,hfl,h0,h1k⟩:=elemOf_ok he;split at h
    ·rename_i hc;simp only[Bool.and_eq_true] at hc;have hq:=Nat.eq_of_beq_eq_true hc.1;have hq1:q%1000000 / 1000=tm.length:=by omega
     have hq2:q%1000=0:=by omega
     split at h
     ·injection h with h
      subst h;refine quiet_ok (fun C ρ ft a w ht hli hm hv=>?_) (fun hli c hc=>by cases hc)
      obtain⟨v0,v1,v2⟩:=hv;have h1:=(ev_eval ht ha).1;obtain⟨g1,g2,_⟩:=row_reads hm hr;have hlo:(∃ k,lo.map a.eval=some (.int k 0))∨(lo.map a.eval=none/\(0:Int)=0):=by
       rcases evB_eval ht hl with⟨k,j,e,_⟩|⟨_,e⟩
       ·cases e
       ·exact Or.inr ⟨e,rfl⟩
      have hhx:=sel_hi (n:=n) (evB_eval ht hhi);have hadd:∀ A:Option Addr,(A.map fun x=>x.add 0)=A:=fun A=>by cases A<;>simp[Addr.add]
      have hnil:=(fun(hz:(ρ i).nil=true)=>(show(ρ i).cap=0 from by
       unfold rowOf at hr;split at hr
       ·rename_i t0 r0 hi;exact(hm.at_ i _ hi).1.2.2.2.2.1 hz
       ·rename_i r0 hi;exact(hm.at_ i _ hi).1.2.2.2.2.1 hz
       ·cases hr))
      simp only[ren,renS] at h1 ⊢
      by_cases hn:(ρ i).nil=true
      ·rw[if_pos hn] at h1 ⊢;have hcap:=hnil hn;have hn0:n=0:=by omega
       subst hn0;have hr2:=slice_run (P:=P) (A:=none) (n:=0) (cap:=0) w hu hinf hlo hhx (Int.le_refl 0) v0 (by simpa using v1)
       simp[execOp,ho,h1,hr2]
      ·rw[if_neg hn] at h1 ⊢
       by_cases hex:q / 1000000≠0/\(ρ i).cap≤e0
       ·rw[if_pos hex] at h1 ⊢;have hn0:n=0:=by omega
        subst hn0;have hr2:=slice_run (P:=P) (A:=some ⟨(ρ (q / 1000000-1)).blk,(ρ (q / 1000000-1)).off,none⟩) (n:=0) (cap:=0) w hu hinf hlo hhx (Int.le_refl 0) v0 (by simpa using v1)
        simp[execOp,ho,h1,hr2]
       ·rw[if_neg hex] at h1 ⊢;have hr2:=slice_run (P:=P) (A:=some (renA ρ ⟨i,e0,some q⟩)) (n:=n) (cap:=(ρ i).cap-e0) w hu hinf hlo hhx (Int.le_refl 0) v0 (by omega)
        simp[execOp,ho,h1,hr2,hadd]
     ·rename_i l;split at h
      ·rename_i hb0;have hq0:q<1000000:=by simpa [Nat.blt_eq] using hb0
       injection h with h
       subst h;refine quiet_ok (fun C ρ ft a w ht hli hm hv=>?_) (fun hli c hc=>by cases hc)
       obtain⟨hz0,v0,v1,v2,v3⟩:=hv;subst hz0;have h1:=(ev_eval ht ha).1;obtain⟨g1,g2,_⟩:=row_reads hm hr;have hlo:(∃ k,lo.map a.eval=some (.int k l))∨(lo.map a.eval=none/\l=0):=by
        rcases evB_eval ht hl with⟨k,j,e,e2⟩|⟨e,_⟩
        ·injection e with e;subst e;exact Or.inl ⟨k,e2⟩
        ·cases e
       have hhx:=sel_hi (n:=n) (evB_eval ht hhi);have hnil:=(fun(hz:(ρ i).nil=true)=>(show(ρ i).cap=0 from by
        unfold rowOf at hr;split at hr
        ·rename_i t0 r0 hi;exact(hm.at_ i _ hi).1.2.2.2.2.1 hz
        ·rename_i r0 hi;exact(hm.at_ i _ hi).1.2.2.2.2.1 hz
        ·cases hr))
       have e1:(1000*tm.length+1000000*(i+1)) / 1000000=i+1:=by omega
       have e2:(1000*tm.length+1000000*(i+1))%1000000 / 1000=tm.length:=by omega
       have e3:(1000*tm.length+1000000*(i+1))%1000=0:=by omega
       have hex:¬ (q / 1000000≠0/\(ρ i).cap≤0):=fun h=>h.1 (by omega)
       simp only[ren,renS] at h1 ⊢
       by_cases hn:(ρ i).nil=true
       ·rw[if_pos hn] at h1 ⊢;have hcap:=hnil hn;have hn0:n=0:=by omega
        subst hn0;have hl0:l=0:=by omega
        subst hl0;have hr2:=slice_run (P:=P) (A:=none) (n:=0) (cap:=0) w hu hinf hlo hhx v0 v1 (by simpa using v2)
        simp[execOp,ho,h1,hr2]
       ·rw[if_neg hn,if_neg hex,Nat.sub_zero] at h1;rw[if_neg hn];have hr2:=slice_run (P:=P) (A:=some (renA ρ ⟨i,0,some q⟩)) (n:=n) (cap:=(ρ i).cap) w hu hinf hlo hhx v0 v1 (by omega)
        have hx:(execOp a.eval o).run P w=.ok (.value (.slice (if(ρ i).cap=l.toNat then some (renA ρ ⟨i,0,some q⟩) else(some (renA ρ ⟨i,0,some q⟩)).map (·.add (l.toNat*inf.size))) ((hh.getD ↑n).toNat-l.toNat) ((ρ i).cap-l.toNat))) w:=by
         simp only[execOp,ho,h1,Option.map_none,hr2,Sem.run_bind,Result.andThen_ok,Sem.run_pure]
        rw[hx];have hsub:(hh.getD ↑n-l).toNat=(hh.getD ↑n).toNat-l.toNat:=by omega
        have hsz2:inf.size=tm.length:=by rw[hsz]
        rw[hsub]
        by_cases hc2:(ρ i).cap=l.toNat
        ·rw[if_pos hc2,if_pos ⟨by omega,by omega⟩,e1,Nat.add_sub_cancel]
         simp only[renA,cellOf,hq2,Nat.zero_mul,Nat.zero_add,Nat.add_zero,hc2,Nat.sub_self]
        ·rw[if_neg hc2,if_neg (fun h=>hc2 (by omega))]
         simp only[renA,cellOf,hq2,e2,e3,Nat.zero_mul,Nat.zero_add,Nat.add_zero,Option.map_some,add_at,hsz2]
      ·injection h with h
       subst h;refine⟨fun C ρ ft a w K Q ht hli hm hv hK=>?_,by simp,fun _ b hb=>by cases hb⟩
       obtain⟨v0,v1,v2,v3⟩:=hv;have h1:=(ev_eval ht ha).1;obtain⟨hb1,hb2⟩:=ev_eval ht ha;simp only[inb,Bool.and_eq_true,Nat.blt_eq] at hb2;have hil:i<σ.hp.length:=hb2.1;obtain⟨g1,g2,_⟩:=row_reads hm hr;have hlo:(∃ k,lo.map a.eval=some (.int k l))∨(lo.map a.eval=none/\l=0):=by
        rcases evB_eval ht hl with⟨k,j,e,e2⟩|⟨e,_⟩
        ·injection e with e;subst e;exact Or.inl ⟨k,e2⟩
        ·cases e
       have hhx:=sel_hi (n:=n) (evB_eval ht hhi);have hnil:=(fun(hz:(ρ i).nil=true)=>(show(ρ i).cap=0 from by
        unfold rowOf at hr;split at hr
        ·rename_i t0 r0 hi;exact(hm.at_ i _ hi).1.2.2.2.2.1 hz
        ·rename_i r0 hi;exact(hm.at_ i _ hi).1.2.2.2.2.1 hz
        ·cases hr))
       generalize hN:σ.hp.length=N at *
       have e1:(1000*tm.length+1000000*(N+1)) / 1000000=N+1:=by omega
       have e2:(1000*tm.length+1000000*(N+1))%1000000 / 1000=tm.length:=by omega
       have e3:(1000*tm.length+1000000*(N+1))%1000=0:=by omega
       have hfin:∀ (A:Addr) (v:Value),(execOp a.eval o).run P w=.ok (.value v) w ->
         ren (upd ρ N ⟨A.block,A.off,0,false⟩) (.slice (some ⟨i,e0+l.toNat,some (1000*tm.length+1000000*(N+1))⟩) (hh.getD ↑n-l).toNat c)=v->o.wp P a w K Q:=by
        intro A v hrun hv;have hp:=hm.pushNone ⟨A.block,A.off,0,false⟩;rw[hN] at hp;have:=hK _ _ _ (fun i hi=>upd_lt ρ N ⟨A.block,A.off,0,false⟩ hi) hp
        rw[hv] at this;exact wp_value hrun this
       have hupd:∀ p:Place,upd ρ N p i=ρ i:=fun p=>upd_lt _ _ _ hil
       simp only[ren,renS] at h1
       by_cases hn:(ρ i).nil=true
       ·rw[if_pos hn] at h1;have hcap:=hnil hn;have hn0:n=0:=by omega
        subst hn0;have hl0:l=0:=by omega
        subst hl0;have hr2:=slice_run (P:=P) (A:=none) (n:=0) (cap:=0) w hu hinf hlo hhx v0 v1 (by simpa using v2)
        refine hfin ⟨0,0,none⟩ (.slice none (hh.getD 0).toNat 0) (by simp[execOp,ho,h1,hr2]) ?_
        simp only[ren,renS,hupd,hn,if_true];simp
       ·rw[if_neg hn] at h1
        by_cases hex:q / 1000000≠0/\(ρ i).cap≤e0
        ·rw[if_pos hex] at h1;have hn0:n=0:=by omega
         subst hn0;have hl0:l=0:=by omega
         subst hl0;have hr2:=slice_run (P:=P) (A:=some ⟨(ρ (q / 1000000-1)).blk,(ρ (q / 1000000-1)).off,none⟩) (n:=0) (cap:=0) w hu hinf hlo hhx v0 v1 (by simpa using v2)
         refine hfin ⟨(ρ (q / 1000000-1)).blk,(ρ (q / 1000000-1)).off,none⟩ (.slice (some ⟨(ρ (q / 1000000-1)).blk,(ρ (q / 1000000-1)).off,none⟩) (hh.getD 0).toNat 0) (by simp[execOp,ho,h1,hr2]) ?_
         simp only[ren,renS,hupd,hn,if_false,e1,Nat.add_sub_cancel,upd_same];have hc2:N+1≠0/\(ρ i).cap≤e0+(0:Int).toNat:=⟨by omega,by simpa using hex.2⟩
         simp[hn,hc2.2];exact fun h=>absurd h (by simpa using hex.2)
        ·rw[if_neg hex] at h1;have hr2:=slice_run (P:=P) (A:=some (renA ρ ⟨i,e0,some q⟩)) (n:=n) (cap:=(ρ i).cap-e0) w hu hinf hlo hhx v0 v1 (by omega)
         refine hfin (renA ρ ⟨i,e0,some q⟩) _ (by simp only[execOp,ho,h1,Option.map_none,hr2,Sem.run_bind,Sem.run_pure,Result.andThen_ok];rfl) ?_
         simp only[ren,renS];rw[hupd,if_neg hn,e1];have hnl:(hh.getD (n:Int)-l).toNat=(hh.getD (n:Int)).toNat-l.toNat:=by omega
         by_cases hc2:(ρ i).cap-e0=l.toNat
         ·rw[if_pos hc2,if_pos ⟨by omega,by omega⟩,hnl,hc2,Nat.sub_self]
          simp[upd_same,renA]
         ·rw[if_neg hc2,if_neg (by omega),hnl]
          simp only[renA,hupd,cellOf,e2,e3,hq1,hq2,Option.map_some,add_at,hsz];simp[Nat.add_mul,Nat.add_assoc,Nat.sub_add_eq]
    ·cases h
   ·cases h
  ·cases h
end
end Rx
namespace Rx
open Go.RowKit State
def cut {α:Type} (l:List α) (e n:Nat):List α:=(l.drop e).take n
theorem cut_length {α:Type} {l:List α} {e n:Nat} (h:e+n≤l.length):(cut l e n).length=n:=by simp[cut];omega
theorem cut_get {α:Type} {l:List α} {e n i:Nat} (h:i<n):(cut l e n)[i]?=l[e+i]?:=by simp[cut,List.getElem?_take,h]
@[simp] theorem cut_all {α:Type} (l:List α):cut l 0 l.length=l:=by simp[cut]
def catCol (t:Value) (c0:Col) (e0 n:Nat) (c1:Col) (e1 m:Nat):Col :=
 match t with
 |.int _ _=>⟨cut c0.i e0 n++cut c1.i e1 m,[],[]⟩
 |.bool _=>⟨[],cut c0.b e0 n++cut c1.b e1 m,[]⟩
 |_=>⟨[],[],cut c0.s e0 n++cut c1.s e1 m⟩
def likeV:Value->Value->Bool
 |.int k _,.int k' _=>decide (k=k')
 |.bool _,.bool _=>true
 |.string _,.string _=>true
 |_,_=>false
def likeL:List Value->List Value->Bool
 |[],[]=>true
 |a::l,b::r=>likeV a b&&likeL l r
 |_,_=>false
theorem likeL_length:∀ {l r:List Value},likeL l r=true->l.length=r.length
 |[],[],_=>rfl
 |[],_::_,h=>by simp[likeL] at h
 |_::_,[],h=>by simp[likeL] at h
 |a::l,b::r,h=>by
  simp only[likeL,Bool.and_eq_true] at h;simp[likeL_length h.2]
theorem likeL_get:∀ {l r:List Value} {f:Nat} {a b:Value},likeL l r=true->l[f]?=some a->r[f]?=some b->likeV a b=true
 |[],r,f,a,b,_,h1,_=>by simp at h1
 |_::_,[],f,a,b,h,_,h2=>by simp at h2
 |a0::l,b0::r,f,a,b,h,h1,h2=>by
  simp only[likeL,Bool.and_eq_true] at h;cases f with
  |zero=>simp only[List.getElem?_cons_zero,Option.some.injEq] at h1 h2;subst h1;subst h2;exact h.1
  |succ f=>simp only[List.getElem?_cons_succ] at h1 h2;exact likeL_get h.2 h1 h2
theorem like_cell {a b:Value} (h:likeV a b=true) (c:Col) (e:Nat):cellVal a c e=cellVal b c e:=by
 cases a<;>cases b<;>simp[likeV,cellVal] at h ⊢
 exact h
theorem like_ok {a b:Value} (h:likeV a b=true) (c:Col) (n:Nat):colOk a c n↔colOk b c n:=by
 cases a<;>cases b<;>simp[likeV,colOk] at h ⊢
theorem cat_ok {a:Value} {c0 c1:Col} {e0 n e1 m N0 N1:Nat} (hk:likeV a a=true) (h0:colOk a c0 N0) (h1:colOk a c1 N1) (hn:e0+n≤N0) (hm:e1+m≤N1) :
  colOk a (catCol a c0 e0 n c1 e1 m) (n+m)/\∀ e,e<n+m->cellVal a (catCol a c0 e0 n c1 e1 m) e=if e<n then cellVal a c0 (e0+e) else cellVal a c1 (e1+(e-n)):=by
 cases a<;>simp only[likeV] at hk<;>try (cases hk)
 all_goals
  simp only[colOk] at h0 h1;refine⟨by simp only[colOk,catCol,List.length_append];rw[cut_length (by omega),cut_length (by omega)],fun e he=>?_⟩
  simp only[cellVal,catCol,List.getD_eq_getElem?_getD]
  by_cases hlt:e<n
  ·rw[if_pos hlt,List.getElem?_append_left (by rw[cut_length (by omega)];exact hlt),cut_get hlt]
  ·rw[if_neg hlt,List.getElem?_append_right (by rw[cut_length (by omega)];omega),cut_length (by omega),cut_get (by omega)]
def catCols (e0 n e1 m:Nat):List Value->List Col->List Col->List Col
 |t::tm,c0::l0,c1::l1=>catCol t c0 e0 n c1 e1 m::catCols e0 n e1 m tm l0 l1
 |_,_,_=>[]
theorem catCols_get {e0 n e1 m:Nat}:∀ {tm:List Value} {l0 l1:List Col},tm.length=l0.length->l0.length=l1.length->(catCols e0 n e1 m tm l0 l1).length=l0.length /\
  ∀ (f:Nat) (c:Col),(catCols e0 n e1 m tm l0 l1)[f]?=some c->∃ t c0 c1,tm[f]?=some t/\l0[f]?=some c0/\l1[f]?=some c1/\c=catCol t c0 e0 n c1 e1 m
 |[],[],[],_,_=>⟨rfl,fun f c h=>by simp[catCols] at h⟩
 |[],_::_,_,h,_=>by simp at h
 |_::_,[],_,h,_=>by simp at h
 |_,[],_::_,_,h=>by simp at h
 |_,_::_,[],_,h=>by simp at h
 |t::tm,c0::l0,c1::l1,h0,h=>by
  obtain⟨h1,h2⟩:=catCols_get (e0:=e0) (n:=n) (e1:=e1) (m:=m) (tm:=tm) (l0:=l0) (l1:=l1) (by simpa using h0) (by simpa using h)
  refine⟨by simp[catCols,h1],fun f c hc=>?_⟩
  cases f with
  |zero =>
   simp only[catCols,List.getElem?_cons_zero,Option.some.injEq] at hc;exact⟨t,c0,c1,rfl,rfl,rfl,hc.symm⟩
  |succ f =>
   simp only[catCols,List.getElem?_cons_succ] at hc ⊢;exact h2 f c hc
theorem setMany_get:∀ (l:List Value) (cur:Array Value) (k j:Nat),k+l.length≤cur.size->(setMany cur k l)[j]?=if k≤j/\j<k+l.length then l[j-k]? else cur[j]?
 |[],cur,k,j,h=>by
  simp only[setMany,List.length_nil];rw[if_neg (by omega)]
 |v::l,cur,k,j,h=>by
  simp only[setMany];rw[setMany_get l _ (k+1) j (by simp at h ⊢;omega),Array.getElem?_setIfInBounds]
  simp only[List.length_cons] at h ⊢
  by_cases h1:k+1≤j/\j<k+1+l.length
  ·rw[if_pos h1,if_pos (by omega)]
   rw[show j-k=(j-(k+1))+1 by omega,List.getElem?_cons_succ]
  ·rw[if_neg h1]
   by_cases h2:k=j
   ·subst h2;rw[if_pos rfl,if_pos (by omega),if_pos (by omega)]
    simp
   ·rw[if_neg h2,if_neg (by omega)]
section
variable {R:Type} {D:Res R} {P:Program} {C:Ctx} {ρ:Env} {ft:Nat->Nat->Prop} {w w':World}
def srcRow (σ:SS R) (tm:List Value) (y:Operand):Option (Row×Nat×Nat) :=
 match ev σ.tm y with
 |some (.slice none 0 0)=>match zeroCols tm 0 with
  |some cols=>some (⟨tm,0,cols⟩,0,0)
  |none=>none
 |some (.slice (some ⟨j,e1,some q⟩) m _) =>
  match rowOf σ.hp[j]? with
  |some r=>if Nat.beq (q%1000000) (1000*tm.length)&&likeL r.tm tm then some (r,e1,m) else none
  |none=>none
 |_=>none
theorem rowOf_nil {h:Hp R} {i:Nat} {r:Row} (hm:HM D C ρ ft h w) (hr:rowOf h[i]?=some r):(ρ i).nil=true->(ρ i).cap=0:=by
 intro hz;unfold rowOf at hr;split at hr
 ·rename_i t0 r0 hi;exact(hm.at_ i _ hi).1.2.2.2.2.1 hz
 ·rename_i r0 hi;exact(hm.at_ i _ hi).1.2.2.2.2.1 hz
 ·cases hr
theorem srcRow_ok {σ:SS R} {tm:List Value} {y:Operand} {r:Row} {e1 m:Nat} {a:Act} (h:srcRow σ tm y=some (r,e1,m)) (ht:TM ρ σ.hp.length σ.tm a) (hm:HM D C ρ ft σ.hp w) (hv:e1+m≤r.n) (h0:0<tm.length) (h1k:tm.length<1000) :
  r.cols.length=tm.length/\(∀ (f:Nat) (t:Value) (c:Col),tm[f]?=some t->r.cols[f]?=some c->colOk t c r.n) /\
  ∃ A c',a.eval y=.slice A m c'/\∃ news:List Value,news.length=m*tm.length/\(∀ w2:World,w2.heap=w.heap->(Builtin.firstCells tm.length m (a.eval y)).run P w2=.ok news.toArray w2)/\(∀ v∈news,v.oneCell'=true) /\
   ∀ (f:Nat) (t:Value) (c:Col) (e:Nat),tm[f]?=some t->r.cols[f]?=some c->e<m->news[e*tm.length+f]?=some (cellVal t c (e1+e)):=by
 unfold srcRow at h;split at h
 ·rename_i ha;split at h
  ·rename_i cols hcols;injection h with h
   injection h with h2 h3
   injection h3 with h3 h4
   subst h2;subst h3;subst h4;obtain⟨c1,c2⟩:=zeroCols_ok hcols;have hv1:=(ev_eval ht ha).1;simp only[ren] at hv1;refine⟨c1,fun f t c g1 g2=>(c2 f t c g1 g2).1,none,0,hv1,[],by simp,(fun w2 _=>by rw[hv1];simp[Builtin.firstCells]),(fun v hv=>by cases hv),fun f t c e _ _ he=>by omega⟩
  ·cases h
 ·rename_i j e1' q m' c ha;split at h
  ·rename_i r' hr;split at h
   ·rename_i hc;simp only[Bool.and_eq_true] at hc;have hq:=Nat.eq_of_beq_eq_true hc.1;injection h with h
    injection h with h2 h3
    injection h3 with h3 h4
    subst h2;subst h3;subst h4;have hlen:=likeL_length hc.2;obtain⟨g1,g2,g3,g4,g5,g6⟩:=row_reads hm hr;have hnil:=rowOf_nil hm hr;have hv1:=(ev_eval ht ha).1;simp only[ren] at hv1;have hok:∀ (f:Nat) (t:Value) (c:Col),tm[f]?=some t->r'.cols[f]?=some c->colOk t c r'.n:=fun f t c k1 k2=>by
     have hfl:f<r'.tm.length:=by rw[hlen];exact(List.getElem?_eq_some_iff.1 k1).1
     have k3:=List.getElem?_eq_getElem hfl;exact(like_ok (likeL_get hc.2 k3 k1) c _).1 (g5 f _ c k3 k2)
    refine⟨by rw[g4,hlen],hok,?_⟩
    have hreal:∀ (A:Option Addr) (c':Nat),a.eval y=.slice A m' c'->(m'=0∨A=some ⟨(ρ j).blk,(ρ j).off+e1'*tm.length,none⟩)->∃ A c',a.eval y=.slice A m' c'/\∃ news:List Value,news.length=m'*tm.length/\(∀ w2:World,w2.heap=w.heap->(Builtin.firstCells tm.length m' (a.eval y)).run P w2=.ok news.toArray w2)/\(∀ v∈news,v.oneCell'=true) /\
      ∀ (f:Nat) (t:Value) (c:Col) (e:Nat),tm[f]?=some t->r'.cols[f]?=some c->e<m'->news[e*tm.length+f]?=some (cellVal t c (e1'+e)):=by
     intro A c' hA hcase;refine⟨A,c',hA,?_⟩;rcases hcase with hm0|hA2
     ·subst hm0;refine⟨[],by simp,fun w2 _=>?_,(fun v hv=>by cases hv),fun f t c e _ _ he=>by omega⟩
      rw[hA];cases A<;>simp[Builtin.firstCells,loadCells,loadCellsFrom]
     ·subst hA2;refine⟨(List.range (m'*tm.length)).map fun k=>match r'.tm[k%tm.length]?,r'.cols[k%tm.length]? with|some t,some c=>cellVal t c (e1'+k / tm.length)|_,_=>undef,by simp,?_,?_,?_⟩
      ·intro w2 hw2;rw[hA];refine run_firstCells_some w2 tm.length m' _ m' c' _ (by simp) (fun k v hk=>?_)
       have hkl:k<m'*tm.length:=by have:=(List.getElem?_eq_some_iff.1 hk).1;simpa using this
       simp only[List.getElem?_map,List.getElem?_range hkl,Option.map_some,Option.some.injEq] at hk;have hmod:k%tm.length<r'.tm.length:=by rw[hlen];exact Nat.mod_lt _ h0
       have hmod2:k%tm.length<r'.cols.length:=by rw[g4];exact hmod
       have q1:=List.getElem?_eq_getElem hmod;have q2:=List.getElem?_eq_getElem hmod2;rw[q1,q2] at hk;have hdiv:k / tm.length<m':=Nat.div_lt_of_lt_mul (by rw[Nat.mul_comm];exact hkl)
       have:=g6 _ _ _ (e1'+k / tm.length) q1 q2 (by omega)
       rw[World.cell?_of_block (w:=w) (by rw[hw2]),add_at,← hk,← this]
       have hdm:k / tm.length*tm.length+k%tm.length=k:=by rw[Nat.mul_comm];exact Nat.div_add_mod k tm.length
       congr 2
       rw[hlen,Nat.add_mul,Nat.add_assoc,Nat.add_assoc,hdm]
      ·intro v hv;obtain⟨k,hk,rfl⟩:=List.mem_map.1 hv;have hmod:k%tm.length<r'.tm.length:=by rw[hlen];exact Nat.mod_lt _ h0
       have hmod2:k%tm.length<r'.cols.length:=by rw[g4];exact hmod
       rw[List.getElem?_eq_getElem hmod,List.getElem?_eq_getElem hmod2];exact cellVal_one (g5 _ _ _ (List.getElem?_eq_getElem hmod) (List.getElem?_eq_getElem hmod2)) _
      ·intro f t c e k1 k2 he;have hfl:f<tm.length:=(List.getElem?_eq_some_iff.1 k1).1;have hlt:e*tm.length+f<m'*tm.length:=by
        have:=Nat.mul_le_mul_right tm.length (show e+1≤m' from he)
        rw[Nat.add_mul,Nat.one_mul] at this;omega
       have d1:(e*tm.length+f)%tm.length=f:=by rw[Nat.add_comm,Nat.add_mul_mod_self_right,Nat.mod_eq_of_lt hfl]
       have d2:(e*tm.length+f) / tm.length=e:=by rw[Nat.add_comm,Nat.add_mul_div_right _ _ h0,Nat.div_eq_of_lt hfl,Nat.zero_add]
       have k3:=List.getElem?_eq_getElem (show f<r'.tm.length by rw[hlen];exact hfl)
       simp only[List.getElem?_map,List.getElem?_range hlt,Option.map_some,d1,d2,k3,k2];rw[like_cell (likeL_get hc.2 k3 k1)]
    have e1:q%1000000 / 1000=tm.length:=by omega
    have e2:q%1000=0:=by omega
    unfold renS at hv1;simp only at hv1
    by_cases hn:(ρ j).nil=true
    ·rw[if_pos hn] at hv1;exact hreal _ _ hv1 (Or.inl (by have:=hnil hn;omega))
    ·rw[if_neg hn] at hv1
     by_cases hex:q / 1000000≠0/\(ρ j).cap≤e1'
     ·rw[if_pos hex] at hv1;exact hreal _ _ hv1 (Or.inl (by omega))
     ·rw[if_neg hex] at hv1;refine hreal _ _ hv1 (Or.inr ?_);simp only[renA,cellOf,e1,e2,Nat.add_zero]
   ·cases h
  ·cases h
 ·cases h
section
variable (w:World)
theorem append_room {t t2 ty e:TypeId} {i:TypeInfo} {el2:TypeId} (ht:P.underlying t=some (.slice e)) (ht2:P.underlying t2=some (.slice el2)) (hi:P.info? e=some i) {g o sLen sCap m c:Nat} {A:Option Addr} {cur:Array Value} {news:List Value}
  (hg:w.heap[g]?=some (.cells cur e (0,0))) (hf:(Builtin.firstCells i.size m (.slice A m c)).run P w=.ok news.toArray w) (h1:∀ u∈news,u.oneCell'=true) (hroom:sLen+m≤sCap) (hfit:o+sLen*i.size+news.length≤cur.size) :
  (Builtin.append_ #[t,t2] ty #[.slice (some ⟨g,o,none⟩) sLen sCap,.slice A m c]).run P w=.ok (.slice (some ⟨g,o,none⟩) (sLen+m) sCap) (w.setRow g (setMany cur (o+sLen*i.size) news)):=by
 have hst:=run_storeMany (P:=P) g (o+sLen*i.size) e news 0 cur w hg (by simpa using hfit) h1
 simp only[Nat.add_zero] at hst;simp[Builtin.append_,run_underlying ht,run_underlying ht2,sizeOf,typeInfo,hi,Builtin.lenOf,hroom,hf,add_at,hst]
theorem append_grow {t t2 ty e:TypeId} {i:TypeInfo} {z:Value} {el2:TypeId} (ht:P.underlying t=some (.slice e)) (ht2:P.underlying t2=some (.slice el2)) (hi:P.info? e=some i) (hz:i.zero=some z) {sLen sCap m c:Nat} {A B:Option Addr} {olds news:List Value}
  (hf0:(Builtin.firstCells i.size sLen (.slice B sLen sCap)).run P w.drew=.ok olds.toArray w.drew) (hf:(Builtin.firstCells i.size m (.slice A m c)).run P w.drew=.ok news.toArray w.drew)
  (hg:sCap<sLen+m) (h63:sLen+m≤140737488355328) (hfit:(sLen+m)*i.bytes≤140737488355328) :
  (Builtin.append_ #[t,t2] ty #[.slice B sLen sCap,.slice A m c]).run P w =
   .ok (.slice (some ⟨w.heap.size,0,none⟩) (sLen+m) (grownCap w (sLen+m) sCap e)) (w.drew.alloc (.cells (olds++news++(Builtin.zeroCells z.cells (grownCap w (sLen+m) sCap e-(sLen+m))).toList).toArray e)):=by
 have hn:¬ (sLen+m≤sCap):=by omega
 have h63':¬ (9223372036854775807<((sLen:Int)+(m:Int))):=by omega
 have h48:=growslice_fits (need:=sLen+m) (old:=sCap) (bytes:=i.bytes) hg hfit;have h48':¬ (281474976710656<Builtin.nextslicecap (sLen+m) sCap*i.bytes):=by omega
 simp[Builtin.append_,run_underlying ht,run_underlying ht2,sizeOf,typeInfo,zeroValue,hi,hz,Builtin.lenOf,hn,h63',h48',Question.forced,hf,hf0,newRow,grownCap]
 congr 2
 apply Array.ext';simp[List.append_assoc]
end
theorem HM.moveRow {h:Hp R} (hm:HM D C ρ ft h w) (i:Nat) (t:TypeId) (r:Row) (p:Place) (hk:Kept (ft i) w w') (hp:p.nil=false) (hblk:(ft i p.blk∨w.heap.size≤p.blk)/\p.blk<w'.heap.size) (h0:0<r.tm.length) (hn:r.n≤p.cap) (hc:p.cap≤maxLen)
  (arr:Array Value) (harr:w'.heap[p.blk]?=some (.cells arr t (0,0))) (hs:arr.size=p.off+p.cap*r.tm.length) (hr:RowIn r arr p.off) :
  HM D C (upd ρ h.length p) (upd (upd ft i (fun _=>False)) h.length (fun k=>k=p.blk)) (h.set i none++[some (.inr (.inl (t,r)))]) w':=by
 have key:∀ l k,h.length≤l->upd (upd ft i (fun _=>False)) h.length (fun k=>k=p.blk) l k->l=h.length/\k=p.blk:=fun l k hl hlk=>by
  by_cases he:l=h.length
  ·subst he;rw[upd_same] at hlk;exact⟨rfl,hlk⟩
  ·rw[upd_ne _ _ _ he] at hlk
   by_cases hli:l=i
   ·subst hli;rw[upd_same] at hlk;exact hlk.elim
   ·rw[upd_ne _ _ _ hli] at hlk;obtain⟨B',hB'⟩:=hm.some_ l k hlk;have:=(List.getElem?_eq_some_iff.1 hB').1;omega
 have keyi:∀ k,i<h.length->¬ upd (upd ft i (fun _=>False)) h.length (fun k=>k=p.blk) i k:=fun k hi hk=>by
  rw[upd_ne _ _ _ (by omega),upd_same] at hk;exact hk
 refine hm.step (fun j=>j=i) (hk.mono fun k hk=>⟨i,rfl,hk⟩) (fun j hj=>upd_lt _ _ _ hj) (by simp) ?_ ?_ ?_ ?_
 ·intro j B' hj hB';rcases Nat.lt_or_ge j h.length with hl|hge
  ·have:=hj hl;subst this;rw[List.getElem?_append_left (by simpa using hl),List.getElem?_set_self hl] at hB'
   injection hB' with hB';cases hB'
  ·have:j=h.length:=by
    rcases Nat.lt_or_ge h.length j with hlt|hle
    ·rw[List.getElem?_eq_none (by simp;omega)] at hB';cases hB'
    ·omega
   subst this;rw[List.getElem?_append_right (by simp)] at hB'
   simp at hB';subst hB';refine⟨?_,trivial⟩;simp only[hold,upd_same];exact⟨fun k=>by simp[hp],h0,hn,hc,(fun hz=>by rw[hp] at hz;cases hz),arr,fun _=>⟨harr,hs⟩,hr⟩
 ·intro j hj hne;refine⟨by rw[List.getElem?_append_left (by simpa using hj),List.getElem?_set_ne (fun e=>hne e.symm)],fun k=>by rw[upd_lt _ _ _ hj,upd_ne _ _ _ hne]⟩
 ·intro j k hj hk';rcases Nat.lt_or_ge j h.length with hl|hge
  ·have:=hj hl;subst this;exact absurd hk' (keyi k hl)
  ·obtain⟨rfl,rfl⟩:=key j k hge hk';refine⟨hblk.1.imp (fun hh=>⟨i,rfl,hh⟩) id,hblk.2,_,List.getElem?_append_right (by simp) |>.trans (by simp;rfl)⟩
 ·intro a b k ha hb hka hkb;have red:∀ l,(l<h.length->l=i)->upd (upd ft i (fun _=>False)) h.length (fun k=>k=p.blk) l k->l=h.length:=fun l hl hlk=>by
   rcases Nat.lt_or_ge l h.length with hlt|hge
   ·have:=hl hlt;subst this;exact absurd hlk (keyi k hlt)
   ·exact(key l k hge hlk).1
  rw[red a ha hka,red b hb hkb]
theorem like_self {a b:Value} (h:likeV a b=true):likeV a a=true:=by
 cases a<;>cases b<;>simp[likeV] at h ⊢
theorem cat_row {tm0 tm:List Value} {cols0 cols1:List Col} {e0 n e1 m N0 N1 o:Nat} {arr:Array Value} (hl:likeL tm0 tm=true) (hc0:cols0.length=tm0.length) (hc1:cols1.length=tm.length)
  (h0:∀ (f:Nat) (t:Value) (c:Col),tm0[f]?=some t->cols0[f]?=some c->colOk t c N0) (h1:∀ (f:Nat) (t:Value) (c:Col),tm[f]?=some t->cols1[f]?=some c->colOk t c N1) (hn:e0+n≤N0) (hm:e1+m≤N1)
  (g0:∀ (f:Nat) (t:Value) (c:Col) (e:Nat),tm0[f]?=some t->cols0[f]?=some c->e<n->arr[o+(e*tm.length+f)]?=some (cellVal t c (e0+e)))
  (g1:∀ (f:Nat) (t:Value) (c:Col) (e:Nat),tm[f]?=some t->cols1[f]?=some c->e<m->arr[o+((n+e)*tm.length+f)]?=some (cellVal t c (e1+e))) :
  RowIn ⟨tm0,n+m,catCols e0 n e1 m tm0 cols0 cols1⟩ arr o:=by
 have hlen:=likeL_length hl;obtain⟨k1,k2⟩:=catCols_get (e0:=e0) (n:=n) (e1:=e1) (m:=m) (tm:=tm0) (l0:=cols0) (l1:=cols1) hc0.symm (by rw[hc0,hc1,hlen])
 have main:∀ (f:Nat) (t:Value) (c:Col),tm0[f]?=some t->(catCols e0 n e1 m tm0 cols0 cols1)[f]?=some c->∃ t' c0 c1,tm[f]?=some t'/\cols0[f]?=some c0/\cols1[f]?=some c1/\c=catCol t c0 e0 n c1 e1 m/\likeV t t'=true:=fun f t c ht hc=>by
  obtain⟨t2,c0,c1,qt,q0,q1,rfl⟩:=k2 f c hc;rw[ht] at qt;injection qt with qt
  subst qt;have hfl:f<tm.length:=by rw[← hlen];exact(List.getElem?_eq_some_iff.1 ht).1
  exact⟨_,c0,c1,List.getElem?_eq_getElem hfl,q0,q1,rfl,likeL_get hl ht (List.getElem?_eq_getElem hfl)⟩
 refine⟨by rw[k1,hc0],fun f t c ht hc=>?_,fun f t c e ht hc he=>?_⟩
 ·obtain⟨t',c0,c1,q,q0,q1,rfl,hk⟩:=main f t c ht hc;exact(cat_ok (like_self hk) (h0 f t c0 ht q0) ((like_ok hk c1 _).2 (h1 f t' c1 q q1)) hn hm).1
 ·obtain⟨t',c0,c1,q,q0,q1,rfl,hk⟩:=main f t c ht hc;simp only at he ⊢;rw[(cat_ok (like_self hk) (h0 f t c0 ht q0) ((like_ok hk c1 _).2 (h1 f t' c1 q q1)) hn hm).2 e he,hlen]
  by_cases hlt:e<n
  ·rw[if_pos hlt];exact g0 f t c0 e ht q0 hlt
  ·rw[if_neg hlt];have:=g1 f t' c1 (e-n) q q1 (by omega)
   rw[show n+(e-n)=e by omega] at this
   rw[this,like_cell hk]
theorem joined_get {n m s:Nat} {olds news zs:List Value} (h0:olds.length=n*s) (h1:news.length=m*s):∀ (f e:Nat),f<s ->
  (e<n->(olds++news++zs).toArray[0+(e*s+f)]?=olds[e*s+f]?)/\(e<m->(olds++news++zs).toArray[0+((n+e)*s+f)]?=news[e*s+f]?):=by
 intro f e hf;refine⟨fun he=>?_,fun he=>?_⟩
 ·have:=Nat.mul_le_mul_right s (show e+1≤n from he)
  rw[Nat.add_mul,Nat.one_mul] at this;rw[Nat.zero_add,List.getElem?_toArray,List.append_assoc,List.getElem?_append_left (by omega)]
 ·have:=Nat.mul_le_mul_right s (show e+1≤m from he)
  rw[Nat.add_mul,Nat.one_mul] at this;rw[Nat.zero_add,List.getElem?_toArray,List.append_assoc,List.getElem?_append_right (by rw[h0,Nat.add_mul];omega),List.getElem?_append_left (by rw[h0,Nat.add_mul];omega)]
  congr 1
  rw[h0,Nat.add_mul];omega
def need (tagged:Bool) (m:Nat) (p:Prop):Prop :=
 match tagged with
 |true=>p
 |false=>0<m/\p
theorem need_out {b:Bool} {m:Nat} {p:Prop} (h:need b m p):(b=false->0<m)/\p:=by
 cases b with
 |true=>exact⟨(fun h=>by cases h),h⟩
 |false=>exact⟨fun _=>h.1,h.2⟩
def opAppend (P:Program) (σ:SS R) (t t2:TypeId) (y z:Operand):Option (Out R) :=
 match elemOf P t,P.underlying t2 with
 |some (el,tm,by_),some (.slice _) =>
  match srcRow σ tm z,ev σ.tm y with
  |some (r1,e1,m),some (.slice none 0 0) =>
   match zeroCols tm 0 with
   |some zc=>some ⟨e1+m≤r1.n/\m*by_≤140737488355328/\m≤140737488355328,.slice (some ⟨σ.hp.length,0,some (1000*tm.length)⟩) (0+m) 0,none,σ.hp++[some (.inr (.inl (el,⟨tm,0+m,catCols 0 0 e1 m tm zc r1.cols⟩)))],[],[(σ.hp.length,0)]⟩
   |none=>none
  |some (r1,e1,m),some (.slice (some ⟨i,e0,some q⟩) n _) =>
   match σ.hp[i]? with
   |some (some (.inr (.inl (t',r)))) =>
    if Nat.beq (q%1000000) (1000*tm.length)&&likeL r.tm tm&&Nat.beq t' el then
     some ⟨need (Nat.blt q 1000000) m (e0+n≤r.n/\e1+m≤r1.n/\(n+m)*by_≤140737488355328/\n+m≤140737488355328),.slice (some ⟨σ.hp.length,0,some (1000*tm.length)⟩) (n+m) 0,none,
      σ.hp.set i none++[some (.inr (.inl (el,⟨r.tm,n+m,catCols e0 n e1 m r.tm r.cols r1.cols⟩)))],[],[(i,0),(σ.hp.length,0)]⟩
    else none
   |_=>none
  |_,_=>none
 |_,_=>none
theorem zeroCols_like:∀ {tm:List Value} {n:Nat} {cols:List Col},zeroCols tm n=some cols->likeL tm tm=true
 |[],_,_,_=>rfl
 |t::tm,n,cols,h=>by
  simp only[zeroCols] at h;split at h
  ·rename_i c r hc hr;simp only[likeL,Bool.and_eq_true];refine⟨?_,zeroCols_like hr⟩;cases t<;>simp[zeroCol,likeV] at hc ⊢
  ·cases h
theorem zeroCells_length (z:Array Value) (n:Nat):(Builtin.zeroCells z n).toList.length=n*z.size:=by rw[Array.length_toList,size_zeroCells]
theorem opAppend_ok {σ:SS R} {o:Oper} {t t2:TypeId} {y z:Operand} {x:Out R} (ho:o.op=.call { callee:=.builtin .append,args:=#[y,z],argTypes:=#[t,t2] }) (h:opAppend P σ t t2 y z=some x):OpOk D P o σ x:=by
 unfold opAppend at h;split at h
 ·rename_i el tm by_ el2 he hu2;obtain⟨inf,zv,hu,hi,hz,htm,hsz,hby,hfl,h0,h1k⟩:=elemOf_ok he;have hzs:zv.cells.size=tm.length:=by rw[← htm];simp
  have e1':1000*tm.length / 1000000=0:=by omega
  have e2':1000*tm.length%1000=0:=by omega
  split at h
  ·rename_i r1 e1 m hsrc hy;split at h
   ·rename_i zc hzc;injection h with h
    subst h;refine⟨fun C ρ ft a w K Q ht hli hm hv hK=>?_,by simp,fun _ b hb=>by cases hb⟩
    obtain⟨v0,v1,v2⟩:=hv;obtain⟨s1,s2,A,c',s3,news,s4,s5,s6,s7⟩:=srcRow_ok hsrc ht hm v0 h0 h1k;obtain⟨c1,c2⟩:=zeroCols_ok hzc;have hy1:=(ev_eval ht hy).1;simp only[ren] at hy1;have hself:likeL tm tm=true:=zeroCols_like hzc
    by_cases hm0:m=0
    ·subst hm0;have hrun:(execOp a.eval o).run P w=.ok (.value (.slice none 0 0)) w:=by
      have hf:=s5 w rfl;rw[s3] at hf;simp only[execOp,ho,resolve,invoke,builtin,Sem.run_bind,Sem.run_pure,Result.andThen_ok,List.map_toArray,List.map_cons,List.map_nil,hy1,s3];have hn0:news=[]:=List.eq_nil_of_length_eq_zero (by omega)
      subst hn0;simp[Builtin.append_,run_underlying hu,run_underlying hu2,sizeOf,typeInfo,hi,Builtin.lenOf,hsz];rw[hf];rfl
     have hrow:RowIn ⟨tm,0+0,catCols 0 0 e1 0 tm zc r1.cols⟩ #[] 0 :=
      cat_row hself c1 s1 (fun f t c g1 g2=>(c2 f t c g1 g2).1) s2 (Nat.le_refl 0) v0 (fun f t c e _ _ he=>by omega) (fun f t c e _ _ he=>by omega)
     have hp:=hm.pushNil el ⟨tm,0+0,catCols 0 0 e1 0 tm zc r1.cols⟩ h0 rfl hrow.len hrow.col 0 0;have:=hK _ _ _ (fun i hi=>upd_lt ρ σ.hp.length ⟨0,0,0,true⟩ hi) hp
     refine wp_value hrun ?_
     simpa [ren,renS,upd_same] using this
    ·have hf:=s5 w.drew rfl;rw[s3] at hf;have hrun:(execOp a.eval o).run P w=.ok (.value (.slice (some ⟨w.heap.size,0,none⟩) (0+m) (grownCap w (0+m) 0 el))) (w.drew.alloc (.cells ([]++news++(Builtin.zeroCells zv.cells (grownCap w (0+m) 0 el-(0+m))).toList).toArray el)):=by
      have hr:=append_grow (P:=P) (t:=t) (t2:=t2) (ty:=o.type) w hu hu2 hi hz (sLen:=0) (sCap:=0) (m:=m) (c:=c') (A:=A) (B:=none) (olds:=[]) (news:=news) (by simp[Builtin.firstCells]) (by rw[hsz];exact hf) (by omega) (by omega) (by rw[hby,Nat.zero_add];exact v1)
      simp only[execOp,ho,resolve,invoke,builtin,Sem.run_bind,Sem.run_pure,Result.andThen_ok,List.map_toArray,List.map_cons,List.map_nil,hy1,s3,hr]
     have hcap:=grownCap_ge w (0+m) 0 el;have hcap2:=grownCap_le_maxLen w (0+m) 0 el (by unfold maxLen;omega)
     have hrow:RowIn ⟨tm,0+m,catCols 0 0 e1 m tm zc r1.cols⟩ ([]++news++(Builtin.zeroCells zv.cells (grownCap w (0+m) 0 el-(0+m))).toList).toArray 0:=by
      refine cat_row hself c1 s1 (fun f t c g1 g2=>(c2 f t c g1 g2).1) s2 (Nat.le_refl 0) v0 (fun f t c e _ _ he=>by omega) (fun f t c e g1 g2 he=>?_)
      have hfl':f<tm.length:=(List.getElem?_eq_some_iff.1 g1).1;rw[(joined_get (n:=0) (m:=m) (s:=tm.length) (by simp) s4 f e hfl').2 he]
      exact s7 f t c e g1 g2 he
     have hp:=hm.drew.pushRow el ⟨tm,0+m,catCols 0 0 e1 m tm zc r1.cols⟩ _ (grownCap w (0+m) 0 el) h0 hcap hcap2 (by
      simp only[List.nil_append,List.size_toArray,List.length_append,s4,zeroCells_length,hzs,← Nat.add_mul]
      congr 1;omega) hrow
     have:=hK _ _ _ (fun i hi=>upd_lt ρ σ.hp.length ⟨w.heap.size,0,grownCap w (0+m) 0 el,false⟩ hi) hp
     refine wp_value hrun ?_
     simpa [ren,renS,renA,upd_same,cellOf,e1',e2'] using this
   ·cases h
  ·rename_i r1 e1 m i e0 q n c hsrc hy;split at h
   ·rename_i t' r hir;split at h
    ·rename_i hc;simp only[Bool.and_eq_true] at hc;have hq:=Nat.eq_of_beq_eq_true hc.1.1;have hlike:=hc.1.2;have hte:=Nat.eq_of_beq_eq_true hc.2;subst hte;have hlen:=likeL_length hlike;have hq1:q%1000000 / 1000=tm.length:=by omega
     have hq2:q%1000=0:=by omega
     injection h with h
     subst h;refine⟨fun C ρ ft a w K Q ht hli hm hv hK=>?_,by simp,fun _ b hb=>by cases hb⟩
     obtain⟨v0,v1,v2,v3,v4⟩:=need_out hv;obtain⟨s1,s2,A,c',s3,news,s4,s5,s6,s7⟩:=srcRow_ok hsrc ht hm v2 h0 h1k;obtain⟨hy1,hy2⟩:=ev_eval ht hy;simp only[ren] at hy1;simp only[inb,Bool.and_eq_true,Nat.blt_eq] at hy2;have hil:i<σ.hp.length:=hy2.1;obtain⟨g1,g2,g3,g4,g4',arr,g5,g6⟩:=(hm.at_ i _ hir).1;have hq0:¬ Nat.blt q 1000000=true->1≤q / 1000000:=fun hh=>by
      have:¬ q<1000000:=fun hlt=>hh (by rw[Nat.blt_eq];exact hlt)
      omega
     have hqt:q / 1000000≠0->0<m:=fun hh=>v0 (by
      cases hb:Nat.blt q 1000000 with
      |false=>rfl
      |true=>rw[Nat.blt_eq] at hb;omega)
     have h0':0<r.tm.length:=g2
     have grow:∀ (B:Option Addr) (cap0:Nat) (olds:List Value),a.eval y=.slice B n cap0->olds.length=n*tm.length->(∀ w2:World,w2.heap=w.heap->(Builtin.firstCells tm.length n (.slice B n cap0)).run P w2=.ok olds.toArray w2) ->
       (∀ (f:Nat) (t:Value) (c:Col) (e:Nat),r.tm[f]?=some t->r.cols[f]?=some c->e<n->olds[e*tm.length+f]?=some (cellVal t c (e0+e)))->cap0<n+m->o.wp P a w K Q:=by
      intro B cap0 olds hB hol hof hog hlt;have hf:=s5 w.drew rfl;rw[s3] at hf;have hr:=append_grow (P:=P) (t:=t) (t2:=t2) (ty:=o.type) w hu hu2 hi hz (sLen:=n) (sCap:=cap0) (m:=m) (c:=c') (A:=A) (B:=B) (olds:=olds) (news:=news) (by rw[hsz];exact hof w.drew rfl) (by rw[hsz];exact hf) hlt (by omega) (by rw[hby];exact v3)
      have hrun:(execOp a.eval o).run P w=.ok (.value (.slice (some ⟨w.heap.size,0,none⟩) (n+m) (grownCap w (n+m) cap0 t'))) (w.drew.alloc (.cells (olds++news++(Builtin.zeroCells zv.cells (grownCap w (n+m) cap0 t'-(n+m))).toList).toArray t')):=by
       simp only[execOp,ho,resolve,invoke,builtin,Sem.run_bind,Sem.run_pure,Result.andThen_ok,List.map_toArray,List.map_cons,List.map_nil,hB,s3,hr]
      have hcap:=grownCap_ge w (n+m) cap0 t';have hcap2:=grownCap_le_maxLen w (n+m) cap0 t' (by unfold maxLen;omega)
      have hrow:RowIn ⟨r.tm,n+m,catCols e0 n e1 m r.tm r.cols r1.cols⟩ (olds++news++(Builtin.zeroCells zv.cells (grownCap w (n+m) cap0 t'-(n+m))).toList).toArray 0:=by
       refine cat_row hlike g6.len s1 g6.col s2 v1 v2 (fun f t c e k1 k2 he=>?_) (fun f t c e k1 k2 he=>?_)
       ·have hfl':f<tm.length:=by rw[← hlen];exact(List.getElem?_eq_some_iff.1 k1).1
        rw[(joined_get hol s4 f e hfl').1 he];exact hog f t c e k1 k2 he
       ·have hfl':f<tm.length:=(List.getElem?_eq_some_iff.1 k1).1;rw[(joined_get hol s4 f e hfl').2 he];exact s7 f t c e k1 k2 he
      have hp:=hm.moveRow (w':=w.drew.alloc (.cells (olds++news++(Builtin.zeroCells zv.cells (grownCap w (n+m) cap0 t'-(n+m))).toList).toArray t')) i t' ⟨r.tm,n+m,catCols e0 n e1 m r.tm r.cols r1.cols⟩ ⟨w.heap.size,0,grownCap w (n+m) cap0 t',false⟩ ((Kept.refl _ _).drew.alloc _) rfl ⟨Or.inr (Nat.le_refl _),by simp⟩ h0' hcap hcap2 _ (heap_alloc_new w.drew _) (by
       simp only[List.size_toArray,List.length_append,hol,s4,zeroCells_length,hzs,hlen,← Nat.add_mul,Nat.zero_add]
       congr 1;omega) hrow
      have:=hK _ _ _ (fun j hj=>upd_lt ρ σ.hp.length ⟨w.heap.size,0,grownCap w (n+m) cap0 t',false⟩ hj) hp
      refine wp_value hrun ?_
      simpa [ren,renS,renA,upd_same,cellOf,e1',e2'] using this
     unfold renS at hy1;simp only at hy1
     by_cases hn:(ρ i).nil=true
     ·rw[if_pos hn] at hy1;have hcap0:=g4' hn;have hn0:n=0:=by omega
      subst hn0
      by_cases hm0:m=0
      ·subst hm0;have hrun:(execOp a.eval o).run P w=.ok (.value (.slice none 0 0)) w:=by
        have hf:=s5 w rfl;rw[s3] at hf;simp only[execOp,ho,resolve,invoke,builtin,Sem.run_bind,Sem.run_pure,Result.andThen_ok,List.map_toArray,List.map_cons,List.map_nil,hy1,s3];have hn0:news=[]:=List.eq_nil_of_length_eq_zero (by omega)
        subst hn0;simp[Builtin.append_,run_underlying hu,run_underlying hu2,sizeOf,typeInfo,hi,Builtin.lenOf,hsz];rw[hf];rfl
       have hrow:RowIn ⟨r.tm,0+0,catCols e0 0 e1 0 r.tm r.cols r1.cols⟩ #[] 0 :=
        cat_row hlike g6.len s1 g6.col s2 v1 v2 (fun f t c e _ _ he=>by omega) (fun f t c e _ _ he=>by omega)
       have hp:=(hm.drop i).pushNil t' ⟨r.tm,0+0,catCols e0 0 e1 0 r.tm r.cols r1.cols⟩ h0' rfl hrow.len hrow.col 0 0;rw[List.length_set] at hp;have:=hK _ _ _ (fun i hi=>upd_lt ρ σ.hp.length ⟨0,0,0,true⟩ hi) hp
       refine wp_value hrun ?_
       simpa [ren,renS,upd_same] using this
      ·exact grow none 0 [] hy1 (by simp) (fun w2 _=>by simp[Builtin.firstCells]) (fun f t c e _ _ he=>by omega) (by omega)
     ·have hnf:(ρ i).nil=false:=by simpa using hn
      obtain⟨g7,g8⟩:=g5 hnf;rw[if_neg hn] at hy1
      by_cases hex:q / 1000000≠0/\(ρ i).cap≤e0
      ·rw[if_pos hex] at hy1;have hm0:=hqt hex.1;have hn0:n=0:=by omega
       subst hn0;exact grow _ 0 [] hy1 (by simp) (fun w2 _=>by simp[Builtin.firstCells,loadCells,loadCellsFrom]) (fun f t c e _ _ he=>by omega) (by omega)
      ·rw[if_neg hex] at hy1;have hA:renA ρ ⟨i,e0,some q⟩=⟨(ρ i).blk,(ρ i).off+e0*tm.length,none⟩:=by simp only[renA,cellOf,hq1,hq2,Nat.add_zero]
       rw[hA] at hy1;rw[hlen] at g8
       by_cases hroom:n+m≤(ρ i).cap-e0
       ·have hf:=s5 w rfl;rw[s3] at hf;have hmul:(e0+n+m)*tm.length≤(ρ i).cap*tm.length:=Nat.mul_le_mul_right _ (by omega)
        rw[Nat.add_mul,Nat.add_mul] at hmul;have hfit:(ρ i).off+e0*tm.length+n*tm.length+news.length≤arr.size:=by rw[s4,g8];omega
        have hr:=append_room (P:=P) (t:=t) (t2:=t2) (ty:=o.type) w hu hu2 hi (g:=(ρ i).blk) (o:=(ρ i).off+e0*tm.length) (sLen:=n) (sCap:=(ρ i).cap-e0) (m:=m) (c:=c') (A:=A) (cur:=arr) (news:=news) g7 (by rw[hsz];exact hf) s6 hroom (by rw[hsz];exact hfit)
        rw[hsz] at hr;have hrun:(execOp a.eval o).run P w=.ok (.value (.slice (some ⟨(ρ i).blk,(ρ i).off+e0*tm.length,none⟩) (n+m) ((ρ i).cap-e0))) (w.setRow (ρ i).blk (setMany arr ((ρ i).off+e0*tm.length+n*tm.length) news)):=by
         simp only[execOp,ho,resolve,invoke,builtin,Sem.run_bind,Sem.run_pure,Result.andThen_ok,List.map_toArray,List.map_cons,List.map_nil,hy1,s3,hr]
        have hrow:RowIn ⟨r.tm,n+m,catCols e0 n e1 m r.tm r.cols r1.cols⟩ (setMany arr ((ρ i).off+e0*tm.length+n*tm.length) news) ((ρ i).off+e0*tm.length):=by
         refine cat_row hlike g6.len s1 g6.col s2 v1 v2 (fun f t c e k1 k2 he=>?_) (fun f t c e k1 k2 he=>?_)
         ·have hfl':f<tm.length:=by rw[← hlen];exact(List.getElem?_eq_some_iff.1 k1).1
          have hle:=Nat.mul_le_mul_right tm.length (show e+1≤n from he)
          rw[Nat.add_mul,Nat.one_mul] at hle;rw[setMany_get _ _ _ _ hfit,if_neg (by omega)]
          have:=g6.cell f t c (e0+e) k1 k2 (by omega)
          rw[hlen,Nat.add_mul] at this;rw[← this]
          congr 1
          omega
         ·have hfl':f<tm.length:=(List.getElem?_eq_some_iff.1 k1).1;have hle:=Nat.mul_le_mul_right tm.length (show e+1≤m from he)
          rw[Nat.add_mul,Nat.one_mul] at hle;rw[setMany_get _ _ _ _ hfit,Nat.add_mul,if_pos (by rw[s4];omega)]
          rw[← s7 f t c e k1 k2 he]
          congr 1
          omega
        have hp:=hm.moveRow (w':=w.setRow (ρ i).blk (setMany arr ((ρ i).off+e0*tm.length+n*tm.length) news)) i t' ⟨r.tm,n+m,catCols e0 n e1 m r.tm r.cols r1.cols⟩ ⟨(ρ i).blk,(ρ i).off+e0*tm.length,(ρ i).cap-e0,false⟩
         (kept_setRow _ _ _ ((g1 _).2 ⟨hnf,rfl⟩)) rfl ⟨Or.inl ((g1 _).2 ⟨hnf,rfl⟩),by
          have:=hm.lt i _ ((g1 _).2 ⟨hnf,rfl⟩)
          simpa [World.setRow] using this⟩ h0' hroom (by simp only;omega) _ (setRow_heap w _ _ _ _ _ g7) (by
           have hcm:e0*tm.length+((ρ i).cap-e0)*tm.length=(ρ i).cap*tm.length:=by rw[← Nat.add_mul];congr 1;omega
           rw[setMany_size,g8,hlen];simp only;omega) hrow
        have:=hK _ _ _ (fun j hj=>upd_lt ρ σ.hp.length ⟨(ρ i).blk,(ρ i).off+e0*tm.length,(ρ i).cap-e0,false⟩ hj) hp
        refine wp_value hrun ?_
        simpa [ren,renS,renA,upd_same,cellOf,e1',e2'] using this
       ·have hmul:(e0+n)*tm.length≤(ρ i).cap*tm.length:=Nat.mul_le_mul_right _ (by omega)
        rw[Nat.add_mul] at hmul;refine grow _ _ ((arr.toList.drop ((ρ i).off+e0*tm.length)).take (n*tm.length)) hy1 (by simp;omega) (fun w2 hw2=>?_) (fun f t c e k1 k2 he=>?_) (by omega)
        ·refine run_firstCells_some w2 tm.length n _ n _ _ (by simp;omega) (fun j v hj=>?_)
         rw[World.cell?_of_block (w:=w) (by rw[hw2]),add_at,cell_of_row w _ _ arr _ _ g7]
         have hjl:j<n*tm.length:=by have:=(List.getElem?_eq_some_iff.1 hj).1;simp at this;omega
         simpa [List.getElem?_take,hjl,List.getElem?_drop] using hj
        ·have hfl':f<tm.length:=by rw[← hlen];exact(List.getElem?_eq_some_iff.1 k1).1
         have hle:=Nat.mul_le_mul_right tm.length (show e+1≤n from he)
         rw[Nat.add_mul,Nat.one_mul] at hle;have:=g6.cell f t c (e0+e) k1 k2 (by omega)
         rw[hlen,Nat.add_mul] at this;rw[List.getElem?_take,if_pos (by omega),List.getElem?_drop,← this]
         simp only[Array.getElem?_toList]
         congr 1
         omega
    ·cases h
   ·cases h
  ·cases h
 ·cases h
end
end Rx
namespace Rx
open Go.RowKit State
abbrev Prim (R:Type):=List Value->Hp R->Option (Out R)
structure Con (R:Type) where
 when:List Value->Hp R->Option Bool
 yes:Prim R
 no:Prim R
def Con.go {R:Type} (c:Con R) (b:Bool):Prim R :=
 match b with
 |true=>c.yes
 |false=>c.no
def con1 {R:Type} (p:Prim R):Con R:=⟨fun _ _=>none,p,fun _ _=>none⟩
abbrev Tab (R:Type):=List (FuncId×Con R)
def findT {R:Type}:Tab R->FuncId->Option (Con R)
 |[],_=>none
 |(g,p)::l,f=>if Nat.beq g f then some p else findT l f
def findF {R:Type} (T:Tab R) (f:FuncId):Option (Con R):=if Nat.beq f 1000000000 then none else findT T f
def RdOk {R:Type} (D:Res R) (c:Con R):Prop:=((c.no [] []).isSome=true->∀ X p F w,D.H X p F w->F p.blk/\∃ ca ta,w.heap[p.blk]?=some (.cells ca ta (0,0)))/\∀ e X x p F w,c.yes [.pointer (some ⟨0,e,none⟩)] [some (.inr (.inr (.inr X)))]=some x->D.H X p F w->flat x.v=true/\w.cell? ⟨p.blk,p.off+e,none⟩=some x.v
structure PrimOk {R:Type} (D:Res R) (P:Program) (f:FuncId) (on:List Value->Hp R->Prop) (p:Prim R):Prop where
 known : ∃ fn, P.funcs[f]? = some fn ∧ (fn.name == "runtime.NumGoroutine") = false ∧ fn.body.isNone = false
 run:∀ args h x,on args h->p args h=some x->∀ C ρ ft w,HM D C ρ ft h w->x.vc->inbL h.length args=true ->
  Calls P f (args.map (ren ρ)).toArray w fun e w'=>∃ ρ' ft',(∀ i,i<h.length->ρ' i=ρ i)/\e=.returned (ren ρ' x.v)/\HM D C ρ' ft' x.hp w'
 len:∀ args h x,p args h=some x->h.length≤x.hp.length
 lit:∀ args h x,p args h=some x->∀ b,x.lit=some b->x.v=.bool b
 still:∀ args h x,p args h=some x->x.wr=[]->x.hp=h
def way {R:Type} (c:Con R) (b:Bool) (args:List Value) (h:Hp R):Prop:=(c.when args h=none/\b=true)∨c.when args h=some b
def ConOk {R:Type} (D:Res R) (P:Program) (f:FuncId) (c:Con R):Prop:=∀ b,PrimOk D P f (way c b) (c.go b)
theorem con1_ok {R:Type} {D:Res R} {P:Program} {f:FuncId} {p:Prim R} (h:PrimOk D P f (fun _ _=>True) p):ConOk D P f (con1 p):=by
 intro b;cases b with
 |true=>exact⟨h.known,fun args hh x _=>h.run args hh x trivial,h.len,h.lit,h.still⟩
 |false=>exact⟨h.known,(fun _ _ _ _ hx=>by cases hx),(fun _ _ _ hx=>by cases hx),(fun _ _ _ hx=>by cases hx),(fun _ _ _ hx=>by cases hx)⟩
def memF:List (Nat×Nat)->Nat->Bool
 |[],_=>false
 |p::l,b=>Nat.beq p.1 b||memF l b
def keepB (wr:List (Nat×Nat)) (b:Nat):Bool :=
 match wr with
 |(0,1)::l=>!memF l b
 |_=>false
structure ConOkK {R:Type} (D:Res R) (P:Program) (f:FuncId) (c:Con R):Prop where
 ok:ConOk D P f c
 keep:∀ b args h x,c.go b args h=some x->∀ i,i<h.length->keepB x.wr i=true->x.hp[i]?=h[i]?
def TabOk {R:Type} (D:Res R) (P:Program):Tab R->Prop
 |[]=>True
 |(f,c)::l=>(match Nat.beq f 1000000000 with
  |true=>RdOk D c
  |false=>ConOkK D P f c)/\TabOk D P l
section
variable {R:Type} {D:Res R} {P:Program} {T:Tab R} {C:Ctx} {ρ:Env} {ft:Nat->Nat->Prop} {w w':World}
theorem findT_ok (hT:TabOk D P T) {f:FuncId} {p:Con R} (h:findT T f=some p):match Nat.beq f 1000000000 with
  |true=>RdOk D p
  |false=>ConOkK D P f p:=by
 induction T with
 |nil=>cases h
 |cons a l ih =>
  obtain⟨g,q⟩:=a;simp only[findT] at h;split at h
  ·rename_i hb;have:=Nat.eq_of_beq_eq_true hb;subst this;injection h with h
   subst h;exact hT.1
  ·exact ih hT.2 h
theorem findF_ok (hT:TabOk D P T) {f:FuncId} {p:Con R} (h:findF T f=some p):ConOkK D P f p:=by
 unfold findF at h;split at h
 ·cases h
 ·rename_i hb;have:=findT_ok hT h;rw[show Nat.beq f 1000000000=false by cases hb':Nat.beq f 1000000000<;>simp_all] at this
  exact this
theorem findR_ok (hT:TabOk D P T) {p:Con R} (h:findT T 1000000000=some p):RdOk D p:=findT_ok hT h
def evs (tm:List (Option Value)):List Operand->Option (List Value)
 |[]=>some []
 |y::l =>
  match ev tm y,evs tm l with
  |some v,some r=>some (v::r)
  |_,_=>none
theorem evs_eval {n:Nat} {tm:List (Option Value)} {a:Act} (ht:TM ρ n tm a):∀ {l:List Operand} {r:List Value},evs tm l=some r->l.map a.eval=r.map (ren ρ)/\inbL n r=true
 |[],r,h=>by simp only[evs] at h;injection h with h;subst h;exact⟨rfl,rfl⟩
 |y::l,r,h=>by
  simp only[evs] at h;split at h
  ·rename_i v r' hv hr;injection h with h
   subst h;obtain⟨h1,h2⟩:=ev_eval ht hv;obtain⟨h3,h4⟩:=evs_eval ht hr;exact⟨by simp[h1,h3],by simp[inbL,h2,h4]⟩
  ·cases h
theorem inbL_append {n:Nat} {l r:List Value} (h1:inbL n l=true) (h2:inbL n r=true):inbL n (l++r)=true:=by
 rw[inbL_iff] at *
 intro v hv;rcases List.mem_append.1 hv with hv|hv
 ·exact h1 v hv
 ·exact h2 v hv
def opCall (T:Tab R) (σ:SS R) (f:Operand) (args:List Operand) (b:Bool):Option (Out R) :=
 match ev σ.tm f,evs σ.tm args with
 |some (.func (.func g) ⟨fi⟩ ⟨ca⟩),some vs=>match findF T g with
  |some p=>p.go b ((fi++vs)++ca) σ.hp
  |none=>none
 |_,_=>none
def forkCall (T:Tab R) (σ:SS R) (f:Operand) (args:List Operand):Option Bool :=
 match ev σ.tm f,evs σ.tm args with
 |some (.func (.func g) ⟨fi⟩ ⟨ca⟩),some vs=>match findF T g with
  |some p=>p.when ((fi++vs)++ca) σ.hp
  |none=>none
 |_,_=>none
def goes (c:Option Bool) (b:Bool):Prop:=(c=none/\b=true)∨c=some b
theorem opCall_ok (hT:TabOk D P T) {σ:SS R} {o:Oper} {f:Operand} {args:Array Operand} {ts:Array TypeId} {x:Out R} {b:Bool} (ho:o.op=.call { callee:=.value f,args:=args,argTypes:=ts }) (hb:goes (forkCall T σ f args.toList) b) (h:opCall T σ f args.toList b=some x):OpOk D P o σ x:=by
 unfold opCall at h;unfold forkCall at hb;split at h
 ·rename_i g fi ca vs hf hvs;rw[hf,hvs] at hb;simp only at hb;split at h
  ·rename_i p hp;rw[hp] at hb;simp only at hb;have hok:=(findF_ok hT hp).ok b;refine⟨fun C ρ ft a w K Q ht hli hm hv hK=>?_,hok.len _ _ _ h,fun _=>hok.lit _ _ _ h⟩
   obtain⟨h1,h2⟩:=ev_eval ht hf;obtain⟨h3,h4⟩:=evs_eval ht hvs;simp only[ren,renL_eq] at h1;simp only[inb,Bool.and_eq_true] at h2;obtain⟨fn,g1,g2,g3⟩:=hok.known;have hargs:args.map a.eval=(vs.map (ren ρ)).toArray:=by
    apply Array.ext';rw[Array.toList_map,h3]
   have hrun:(execOp a.eval o).run P w=.ok (.enter g (((fi++vs)++ca).map (ren ρ)).toArray) w:=by
    simp only[execOp,ho,resolve,h1,Deferred.ofValue,Sem.run_bind,Sem.run_pure,Result.andThen_ok,invoke,hargs];simp only[callFunc,Sem.run_bind,run_program,Result.andThen_ok,g1,g2,g3,Bool.false_eq_true,if_false,Sem.run_pure]
    congr 2
    simp
   have hcall:=hok.run _ _ _ hb h C ρ ft w hm hv (inbL_append (inbL_append h2.1 h4) h2.2);unfold Oper.wp;rw[hrun,Oper.upon_enter];refine hcall.mono fun e w' ⟨ρ',ft',q1,q2,q3⟩=>?_
   subst q2;exact hK ρ' ft' w' q1 q3
  ·cases h
 ·cases h
def methOf (P:Program) (t:TypeId) (v:Value) (name:String):Option (FuncId×Value) :=
 pureRun P (Sem.program fun Q=>method (Q.types.size+Made.depth) t v name)
def opInvoke (P:Program) (T:Tab R) (σ:SS R) (r:Operand) (name:String) (args:List Operand) (b:Bool):Option (Out R) :=
 match ev σ.tm r,evs σ.tm args with
 |some (.iface t v),some vs=>match flat v,methOf P t v name with
  |true,some (g,u)=>match flat u,findF T g with
   |true,some p=>p.go b (u::vs) σ.hp
   |_,_=>none
  |_,_=>none
 |_,_=>none
def forkInvoke (P:Program) (T:Tab R) (σ:SS R) (r:Operand) (name:String) (args:List Operand):Option Bool :=
 match ev σ.tm r,evs σ.tm args with
 |some (.iface t v),some vs=>match flat v,methOf P t v name with
  |true,some (g,u)=>match flat u,findF T g with
   |true,some p=>p.when (u::vs) σ.hp
   |_,_=>none
  |_,_=>none
 |_,_=>none
theorem opInvoke_ok (hT:TabOk D P T) {σ:SS R} {o:Oper} {r:Operand} {name:String} {args:Array Operand} {ts:Array TypeId} {x:Out R} {b:Bool} (ho:o.op=.call { callee:=.invoke r name,args:=args,argTypes:=ts }) (hb:goes (forkInvoke P T σ r name args.toList) b) (h:opInvoke P T σ r name args.toList b=some x):OpOk D P o σ x:=by
 unfold opInvoke at h;unfold forkInvoke at hb;split at h
 ·rename_i t v vs hf hvs;rw[hf,hvs] at hb;simp only at hb;split at h
  ·rename_i g u hfl hme;rw[hfl,hme] at hb;simp only at hb;split at h
   ·rename_i p hu hp;rw[hu,hp] at hb;simp only at hb;have hok:=(findF_ok hT hp).ok b;refine⟨fun C ρ ft a w K Q ht hli hm hv hK=>?_,hok.len _ _ _ h,fun _=>hok.lit _ _ _ h⟩
    obtain⟨h1,h2⟩:=ev_eval ht hf;obtain⟨h3,h4⟩:=evs_eval ht hvs;simp only[ren,flat_ren v hfl] at h1;obtain⟨fn,g1,g2,g3⟩:=hok.known;have hargs:args.map a.eval=(vs.map (ren ρ)).toArray:=by
     apply Array.ext';rw[Array.toList_map,h3]
    have hr:(Sem.program fun Q=>method (Q.types.size+Made.depth) t v name).run P w=.ok (g,u) w:=pureRun_run _ hme w
    have hr':(method (P.types.size+Made.depth) t v name).run P w=.ok (g,u) w:=hr;have hrun:(execOp a.eval o).run P w=.ok (.enter g ((u::vs).map (ren ρ)).toArray) w:=by
     simp only[execOp,ho,resolve,h1,Sem.run_bind,Sem.run_pure,Result.andThen_ok,invoke,hargs];have e0:(#[Value.iface t v]++(vs.map (ren ρ)).toArray)[0]?=some (Value.iface t v):=by simp
     have e1:(#[Value.iface t v]++(vs.map (ren ρ)).toArray).extract 1 (#[Value.iface t v]++(vs.map (ren ρ)).toArray).size=(vs.map (ren ρ)).toArray:=by
      apply Array.ext';simp only[Array.toList_extract,Array.toList_append,Array.size_append,List.size_toArray,List.length_map];simp[List.take_of_length_le]
     simp only[e0,e1,callMethod,Sem.run_bind,run_program,Result.andThen_ok,hr',callFunc,g1,g2,g3,Bool.false_eq_true,if_false,Sem.run_pure]
     congr 2
     simp[flat_ren u hu]
    have hcall:=hok.run _ _ _ hb h C ρ ft w hm hv (by simp only[inbL,Bool.and_eq_true];exact⟨flat_inb u hu,h4⟩)
    unfold Oper.wp;rw[hrun,Oper.upon_enter];refine hcall.mono fun e w' ⟨ρ',ft',q1,q2,q3⟩=>?_
    subst q2;exact hK ρ' ft' w' q1 q3
   ·cases h
  ·cases h
 ·cases h
def opMakeFunc (σ:SS R) (fn:Fn) (fi ca:List Operand):Option (Out R) :=
 match evs σ.tm fi,evs σ.tm ca with
 |some u,some v=>some (quietOut σ True (.func fn ⟨u⟩ ⟨v⟩) none [])
 |_,_=>none
theorem opMakeFunc_ok {σ:SS R} {o:Oper} {fn:Fn} {fi ca:Array Operand} {x:Out R} (ho:o.op=.makeFunc fn fi ca) (h:opMakeFunc σ fn fi.toList ca.toList=some x):OpOk D P o σ x:=by
 unfold opMakeFunc at h;split at h
 ·rename_i u v hu hv;injection h with h
  subst h;refine quiet_ok (fun C ρ ft a w ht hli hm _=>?_) (fun _ b hb=>by cases hb)
  obtain⟨h1,_⟩:=evs_eval ht hu;obtain⟨h2,_⟩:=evs_eval ht hv;have e1:fi.map a.eval=(u.map (ren ρ)).toArray:=by apply Array.ext';rw[Array.toList_map,h1]
  have e2:ca.map a.eval=(v.map (ren ρ)).toArray:=by apply Array.ext';rw[Array.toList_map,h2]
  simp only[execOp,ho,Instr.makeFunc,Sem.run_bind,Sem.run_pure,Result.andThen_ok,e1,e2,ren,renL_eq]
 ·cases h
def binKind (op:BinOp) (u v:Option Value):Nat :=
 match u,v with
 |some (.int .i64 _),some (.int .i64 _)=>match op with
  |.add|.sub|.mul|.quo|.rem=>1
  |_=>0
 |some (.string _),some (.string _)=>match op with
  |.add=>2
  |_=>0
 |some (.pointer (some _)),some (.pointer (some _))=>5
 |some (.pointer _),some (.pointer _)|some (.slice _ _ _),some (.slice _ _ _)|some (.func _ _ _),some .nilFunc=>3
 |some (.agg _),some (.agg _)=>4
 |_,_=>0
def wraps (T:Tab R):Bool:=match findT T 1000000000 with
 |some c=>(c.when [] []).isSome
 |none=>false
def addish:BinOp->Bool
 |.add=>true
 |.sub=>true
 |.mul=>true
 |_=>false
def ownsB (T:Tab R):Option (Option (SB R))->Bool
 |some (some (.inl _))=>true
 |some (some (.inr (.inr (.inr _))))=>match findT T 1000000000 with
  |some c=>(c.no [] []).isSome
  |none=>false
 |_=>false
def wrapCon:Con R:=⟨fun _ _=>some true,fun _ _=>none,fun _ _=>none⟩
theorem wrapCon_ok:RdOk D (wrapCon:Con R):=⟨(fun h=>by cases h),fun e X x p F w hx=>by cases hx⟩
theorem ownsB_ok (hT:TabOk D P T) {C:Ctx} {ρ:Env} {ft:Nat->Nat->Prop} {h:Hp R} {w:World} {i:Nat} (hm:HM D C ρ ft h w) (ho:ownsB T h[i]?=true):ft i (ρ i).blk/\∃ ca ta,w.heap[(ρ i).blk]?=some (.cells ca ta (0,0)):=by
 unfold ownsB at ho;split at ho
 ·rename_i x hx;obtain⟨t,cs⟩:=x;obtain⟨_,g2,g3⟩:=(hm.at_ i _ hx).1;exact⟨(g2 _).2 rfl,_,_,g3⟩
 ·rename_i X hx;split at ho
  ·rename_i c hc;exact(findR_ok hT hc).1 ho _ _ _ _ (hm.at_ i _ hx).1
  ·cases ho
 ·cases ho
def opBin (P:Program) (T:Tab R) (σ:SS R) (o:Oper) (op:BinOp) (t:TypeId) (y z:Operand):Option (Out R) :=
 match binKind op (ev σ.tm y) (ev σ.tm z) with
 |1=>if wraps T&&addish op then opPure P σ o else opInt σ op y z
 |2=>match op with
  |.add=>opCat σ y z
  |_=>none
 |3=>match op with
  |.eql=>opEqNil P σ false t y z
  |.neq=>opEqNil P σ true t y z
  |_=>none
 |4=>match op with
  |.eql=>opEqAgg P σ false t y z
  |.neq=>opEqAgg P σ true t y z
  |_=>none
 |5=>match op with
  |.eql=>opEqPtr P σ (ownsB T) false t y z
  |.neq=>opEqPtr P σ (ownsB T) true t y z
  |_=>none
 |_=>opPure P σ o
theorem opBin_ok (hT:TabOk D P T) {σ:SS R} {o:Oper} {op:BinOp} {t t':TypeId} {y z:Operand} {x:Out R} (ho:o.op=.binOp op t y z t') (h:opBin P T σ o op t y z=some x):OpOk D P o σ x:=by
 unfold opBin at h;split at h
 ·split at h
  ·exact opPure_ok h
  ·exact opInt_ok ho h
 ·split at h
  ·exact opCat_ok ho h
  ·cases h
 ·split at h
  ·exact opEqNil_ok (neg:=false) ho h
  ·exact opEqNil_ok (neg:=true) ho h
  ·cases h
 ·split at h
  ·exact opEqAgg_ok (neg:=false) ho h
  ·exact opEqAgg_ok (neg:=true) ho h
  ·cases h
 ·split at h
  ·exact opEqPtr_ok (fun hm ho=>ownsB_ok hT hm ho) (neg:=false) ho h
  ·exact opEqPtr_ok (fun hm ho=>ownsB_ok hT hm ho) (neg:=true) ho h
  ·cases h
 ·exact opPure_ok h
def isNil:Option Value->Bool
 |some (.slice none 0 0)=>true
 |_=>false
def opAssign (P:Program) (σ:SS R) (t:TypeId) (y:Operand):Option (Out R) :=
 if isNil (ev σ.tm y) then
  match opNilSlice P σ t with
  |some x=>some x
  |none=>opMove σ y
 else opMove σ y
theorem opAssign_ok {σ:SS R} {o:Oper} {t:TypeId} {y:Operand} {x:Out R} (ho:o.op=.move y∨o.op=.assign y) (h:opAssign P σ t y=some x):OpOk D P o σ x:=by
 unfold opAssign at h;split at h
 ·rename_i hn;have hv:ev σ.tm y=some (.slice none 0 0):=by
   unfold isNil at hn;split at hn
   ·assumption
   ·cases hn
  split at h
  ·rename_i x' hx;injection h with h
   subst h;exact opNilSlice_ok (n:=0) (c:=0) ho hv hx
  ·exact opMove_ok ho h
 ·exact opMove_ok ho h
def isStr:Option Value->Bool
 |some (.string _)=>true
 |_=>false
def isPtr:Option Value->Bool
 |some (.pointer (some _))=>true
 |_=>false
def isCells:Option Value->Bool
 |some (.slice (some ⟨_,_,none⟩) _ _)=>true
 |_=>false
def isSl:Option Value->Bool
 |some (.slice (some _) _ _)=>true
 |_=>false
def opLoadT (P:Program) (T:Tab R) (σ:SS R) (t:TypeId) (y:Operand):Option (Out R) :=
 match opLoad P σ t y with
 |some x=>some x
 |none =>
  match ev σ.tm y with
  |some (.pointer (some ⟨i,e,none⟩)) =>
   match σ.hp[i]? with
   |some (some (.inr (.inr (.inr X)))) =>
    match aggOf P t,findT T 1000000000 with
    |some none,some c=>match c.yes [.pointer (some ⟨0,e,none⟩)] [some (.inr (.inr (.inr X)))] with
     |some x=>some (quietOut σ True x.v none [(i,e+1)])
     |none=>none
    |_,_=>none
   |_=>none
  |_=>none
theorem opLoadT_ok (hT:TabOk D P T) {σ:SS R} {o:Oper} {t:TypeId} {y:Operand} {x:Out R} (ho:o.op=.load t y) (h:opLoadT P T σ t y=some x):OpOk D P o σ x:=by
 unfold opLoadT at h;split at h
 ·rename_i x' hx;injection h with h
  subst h;exact opLoad_ok ho hx
 ·split at h
  ·rename_i i e ha;split at h
   ·rename_i X hX;split at h
    ·rename_i c hg hc;split at h
     ·rename_i x' hx;injection h with h
      subst h;refine quiet_ok (fun C ρ ft ac w ht hli hm _=>?_) (fun hli c hc=>by cases hc)
      have h1:=(ev_eval ht ha).1;simp only[ren,renA,cellOf] at h1;obtain⟨q1,q2⟩:=(findR_ok hT hc).2 e X x' _ _ w hx (hm.at_ i _ hX).1;simp[execOp,ho,h1,Instr.loadAt,Instr.sureAddr,loadVar_one hg q2,flat_ren _ q1]
     ·cases h
    ·cases h
   ·cases h
  ·cases h
def sop (P:Program) (T:Tab R) (σ:SS R) (o:Oper) (way:Bool):Option (Out R) :=
 match o with
 |⟨dst,op,ty,pos,after,guard⟩ =>
 match op with
 |.move y=>opAssign P σ ty y
 |.assign y=>opAssign P σ ty y
 |.pick c y z=>opPick σ c y z
 |.alloc t=>opAlloc P σ t
 |.box t y=>opBox σ t y
 |.build t ⟨ps⟩=>opBuild P σ t ps
 |.buildSlice t n ⟨ps⟩=>match opBuildSlice P σ t n ps with
  |some x=>some x
  |none=>opBuildCells P σ t n ps
 |.load t y=>opLoadT P T σ t y
 |.store t y z=>match dst with
  |none=>opStore P σ t y z
  |some _=>none
 |.nilCheck y=>opNil σ y
 |.binOp b t y z u=>opBin P T σ ⟨dst,.binOp b t y z u,ty,pos,after,guard⟩ b t y z
 |.unOp u t y=>match u with
  |.not=>opNot σ y
  |_=>opPure P σ ⟨dst,.unOp u t y,ty,pos,after,guard⟩
 |.slice t y lo hi mx=>opSlice P σ t y lo hi mx
 |.fieldAddr t y k=>opFieldAddr P σ t y k
 |.field t y k=>opField P σ t y k
 |.indexAddr t y z=>if isPtr (ev σ.tm y) then opIndexArr P σ t y z else if isCells (ev σ.tm y) then opIndexCells P σ t y z else opIndexAddr P σ t y z
 |.index t y z=>if isStr (ev σ.tm y) then opIndexStr P σ t y z else opPure P σ ⟨dst,.index t y z,ty,pos,after,guard⟩
 |.extract y k=>opExtract σ y k
 |.makeSlice t y z=>opMakeSlice P σ t y z
 |.call ⟨callee,⟨args⟩,⟨ts⟩⟩ =>
  match callee with
  |.value f=>opCall T σ f args way
  |.builtin b =>
   match b,args,ts with
   |.append,[y,z],[t,t2]=>opAppend P σ t t2 y z
   |.len,[y],[t]=>if isSl (ev σ.tm y) then opLen P σ t y else opPure P σ ⟨dst,.call ⟨.builtin .len,⟨[y]⟩,⟨[t]⟩⟩,ty,pos,after,guard⟩
   |b,args,ts=>opPure P σ ⟨dst,.call ⟨.builtin b,⟨args⟩,⟨ts⟩⟩,ty,pos,after,guard⟩
  |.invoke r name=>opInvoke P T σ r name args way
 |.makeFunc fn ⟨fi⟩ ⟨ca⟩=>opMakeFunc σ fn fi ca
 |op=>opPure P σ ⟨dst,op,ty,pos,after,guard⟩
def forkOf (P:Program) (T:Tab R) (σ:SS R) (o:Oper):Option Bool :=
 match o with
 |⟨_,.call ⟨.value f,⟨args⟩,_⟩,_,_,_,_⟩=>forkCall T σ f args
 |⟨_,.call ⟨.invoke r name,⟨args⟩,_⟩,_,_,_,_⟩=>forkInvoke P T σ r name args
 |_=>none
theorem sop_ok (hT:TabOk D P T) {σ:SS R} {o:Oper} {x:Out R} {b:Bool} (hb:goes (forkOf P T σ o) b) (h:sop P T σ o b=some x):OpOk D P o σ x:=by
 obtain⟨dst,op,ty,pos,after,guard⟩:=o;unfold sop at h;simp only at h;split at h
 ·exact opAssign_ok (Or.inl rfl) h
 ·exact opAssign_ok (Or.inr rfl) h
 ·exact opPick_ok rfl h
 ·exact opAlloc_ok rfl h
 ·exact opBox_ok rfl h
 ·rename_i t ps;exact opBuild_ok (parts:=⟨ps⟩) rfl h
 ·rename_i t n ps;(split at h;{ rename_i x' hx;injection h with h;subst h;exact opBuildSlice_ok (parts:=⟨ps⟩) rfl hx };{ exact opBuildCells_ok (parts:=⟨ps⟩) rfl h })
 ·exact opLoadT_ok hT rfl h
 ·split at h
  ·exact opStore_ok rfl rfl h
  ·cases h
 ·exact opNil_ok rfl h
 ·exact opBin_ok hT rfl h
 ·split at h
  ·exact opNot_ok rfl h
  ·exact opPure_ok h
 ·exact opSlice_ok rfl h
 ·exact opFieldAddr_ok rfl h
 ·exact opField_ok rfl h
 ·split at h
  ·exact opIndexArr_ok rfl h
  ·split at h
   ·exact opIndexCells_ok rfl h
   ·exact opIndexAddr_ok rfl h
 ·split at h
  ·exact opIndexStr_ok rfl h
  ·exact opPure_ok h
 ·exact opExtract_ok rfl h
 ·exact opMakeSlice_ok rfl h
 ·rename_i callee args ts;split at h
  ·exact opCall_ok hT (args:=⟨args⟩) rfl hb h
  ·split at h
   ·exact opAppend_ok rfl h
   ·split at h
    ·exact opLen_ok rfl h
    ·exact opPure_ok h
   ·exact opPure_ok h
  ·exact opInvoke_ok hT (args:=⟨args⟩) rfl hb h
 ·exact opMakeFunc_ok (fi:=⟨_⟩) (ca:=⟨_⟩) rfl h
 ·exact opPure_ok h
def putT (σ:SS R) (d:Option Tmp) (v:Value) (lit:Option Bool) (hp:Hp R):SS R :=
 match d with
 |none=>⟨σ.tm,σ.li,hp⟩
 |some t=>⟨σ.tm.set t (some v),(match lit with
  |some b=>[(t,b)]
  |none=>[])++σ.li.filter (fun p=>!Nat.beq p.1 t),hp⟩
structure M (D:Res R) (C:Ctx) (σ:SS R) (a:Act) (w:World):Prop where
 defers:a.defers=[]
 li:LI σ.li σ.tm
 ex:∃ ρ ft,(∀ i,i<C.n0->ρ i=C.e0 i)/\TM ρ σ.hp.length σ.tm a/\HM D C ρ ft σ.hp w
theorem putT_hp (σ:SS R) (d:Option Tmp) (v:Value) (lit:Option Bool) (hp:Hp R):(putT σ d v lit hp).hp=hp:=by cases d<;>rfl
theorem putT_LI {σ:SS R} {d:Option Tmp} {v:Value} {lit:Option Bool} {hp:Hp R} (hl:LI σ.li σ.tm) (hv:∀ b,lit=some b->v=.bool b) (hd:∀ t,d=some t->lit≠none->t<σ.tm.length):LI (putT σ d v lit hp).li (putT σ d v lit hp).tm:=by
 cases d with
 |none=>exact hl
 |some t =>
  intro u b hu;simp only[putT] at hu ⊢;rcases List.mem_append.1 hu with hu|hu
  ·cases lit with
   |none=>simp at hu
   |some c =>
    simp only[List.mem_singleton,Prod.mk.injEq] at hu;obtain⟨rfl,rfl⟩:=hu;rw[hv _ rfl,List.getElem?_set_self (hd _ rfl (by simp))]
  ·obtain⟨h1,h2⟩:=List.mem_filter.1 hu;have hne:u≠t:=fun e=>by subst e;simp at h2
   rw[List.getElem?_set_ne (fun e=>hne e.symm)]
   exact hl u b h1
theorem putT_TM {σ:SS R} {d:Option Tmp} {v:Value} {lit:Option Bool} {hp:Hp R} {a:Act} {ρ':Env} (ht:TM ρ σ.hp.length σ.tm a) (hρ:∀ i,i<σ.hp.length->ρ' i=ρ i) (hlen:σ.hp.length≤hp.length) (hi:inb hp.length v=true) :
  TM ρ' (putT σ d v lit hp).hp.length (putT σ d v lit hp).tm (a.put d (ren ρ' v)):=by
 have old:∀ (t:Nat) (u:Value),σ.tm[t]?=some (some u)->a.tmps[t]?=some (ren ρ' u)/\inb hp.length u=true:=fun t u hu=>by
  obtain⟨h1,h2⟩:=ht.val t u hu;exact⟨by rw[h1,ren_congr (n:=σ.hp.length) (fun i hi=>(hρ i hi)) u h2],inb_mono hlen u h2⟩
 rw[putT_hp];cases d with
 |none=>exact⟨ht.size,old⟩
 |some t =>
  refine⟨by simp[putT,Act.put,ht.size],fun u x hx=>?_⟩
  simp only[putT,Act.put] at hx ⊢
  by_cases he:t=u
  ·subst he;have hl:t<σ.tm.length:=by have:=(List.getElem?_eq_some_iff.1 hx).1;simpa using this
   rw[List.getElem?_set_self hl] at hx;injection hx with hx;injection hx with hx
   subst hx;rw[Array.getElem?_setIfInBounds];simp[ht.size,hl,hi]
  ·rw[List.getElem?_set_ne he] at hx;rw[Array.getElem?_setIfInBounds_ne he];exact old u x hx
def tidy (σ:SS R) (d:Option Tmp) (x:Out R):Bool :=
 inb x.hp.length x.v&&(match d with
  |some t=>(match x.lit with
   |some _=>Nat.blt t σ.tm.length
   |none=>true)
  |none=>true)
theorem M.step {σ:SS R} {o:Oper} {x:Out R} {a:Act} {K:Act->World->Prop} {Q:Exit->Act->World->Prop} (hm:M D C σ a w) (ho:OpOk D P o σ x) (ht:tidy σ o.dst x=true) (hv:x.vc)
  (hK:∀ a' w',M D C (putT σ o.dst x.v x.lit x.hp) a' w'->K a' w') (hn:C.n0≤σ.hp.length):o.wp P a w K Q:=by
 obtain⟨ρ,ft,h0,h1,h2⟩:=hm.ex;simp only[tidy,Bool.and_eq_true] at ht;refine ho.run C ρ ft a w K Q h1 hm.li h2 hv fun ρ' ft' w' hρ hm'=>hK _ _ ⟨?_,putT_LI hm.li (ho.lit hm.li) ?_,ρ',ft',fun i hi=>(hρ i (by omega)).trans (h0 i hi),putT_TM h1 hρ ho.len ht.1,by rw[putT_hp];exact hm'⟩
 ·cases o.dst<;>exact hm.defers
 ·intro t hd hl;have h3:=ht.2;rw[hd] at h3;simp only at h3;cases hx:x.lit with
  |none=>exact absurd hx hl
  |some b=>rw[hx] at h3;simpa [Nat.blt_eq] using h3
theorem M.undef {σ:SS R} {d:Option Tmp} {a:Act} (hm:M D C σ a w):M D C (putT σ d undef none σ.hp) (a.put d undef) w:=by
 obtain⟨ρ,ft,h0,h1,h2⟩:=hm.ex;have hu:ren ρ Go.undef=Go.undef:=by simp[Go.undef,ren,renL]
 refine⟨?_,putT_LI hm.li (fun b hb=>by cases hb) (fun t _ h=>absurd rfl h),ρ,ft,h0,?_,by rw[putT_hp];exact h2⟩
 ·cases d<;>exact hm.defers
 ·have:=putT_TM (d:=d) (v:=Go.undef) (lit:=none) (hp:=σ.hp) h1 (fun _ _=>rfl) (Nat.le_refl _) (by simp[Go.undef,inb,inbL])
  rw[hu] at this;exact this
def assume (σ:SS R) (t:Nat) (b:Bool):SS R:=⟨σ.tm.set t (some (.bool b)),(t,b)::σ.li.filter (fun p=>!Nat.beq p.1 t),σ.hp⟩
theorem M.assume {σ:SS R} {a:Act} {t:Nat} {b:Bool} (hm:M D C σ a w) (ht:σ.tm[t]?=some (some (.bool b))):M D C (Rx.assume σ t b) a w:=by
 have hl:t<σ.tm.length:=(List.getElem?_eq_some_iff.1 ht).1;have hs:σ.tm.set t (some (.bool b))=σ.tm:=by
  apply List.ext_getElem?;intro u
  by_cases he:t=u
  ·subst he;rw[List.getElem?_set_self hl,ht]
  ·rw[List.getElem?_set_ne he]
 obtain⟨ρ,ft,h0,h1,h2⟩:=hm.ex;refine⟨hm.defers,?_,ρ,ft,h0,?_,h2⟩
 ·intro u c hu;simp only[Rx.assume] at hu ⊢;rw[hs];rcases List.mem_cons.1 hu with hu|hu
  ·injection hu with e1 e2
   subst e1;subst e2;exact ht
  ·exact hm.li u c (List.mem_filter.1 hu).1
 ·simp only[Rx.assume];rw[hs];exact h1
end
end Rx
namespace Rx
inductive Tr
 |leaf (i:Nat)
 |node (c:Nat) (l r:Tr)
def fT {β:Sort _}:Tr->Nat->(Nat->β)->β
 |.leaf i,n,k=>match Nat.beq n i with
  |true=>k i
  |false=>k n
 |.node c l r,n,k=>match Nat.blt n c with
  |true=>fT l n k
  |false=>fT r n k
theorem fT_eq {β:Sort _} (t:Tr) (n:Nat) (k:Nat->β):fT t n k=k n:=by
 induction t with
 |leaf i =>
  simp only[fT];split
  ·rename_i h;rw[Nat.eq_of_beq_eq_true h]
  ·rfl
 |node c l r hl hr =>
  simp only[fT];split
  ·exact hl
  ·exact hr
def trs:Tr:=(.node 64 (.node 32 (.node 16 (.node 8 (.node 4 (.node 2 (.node 1 (.leaf 0) (.leaf 1)) (.node 3 (.leaf 2) (.leaf 3))) (.node 6 (.node 5 (.leaf 4) (.leaf 5)) (.node 7 (.leaf 6) (.leaf 7)))) (.node 12 (.node 10 (.node 9 (.leaf 8) (.leaf 9)) (.node 11 (.leaf 10) (.leaf 11))) (.node 14 (.node 13 (.leaf 12) (.leaf 13)) (.node 15 (.leaf 14) (.leaf 15))))) (.node 24 (.node 20 (.node 18 (.node 17 (.leaf 16) (.leaf 17)) (.node 19 (.leaf 18) (.leaf 19))) (.node 22 (.node 21 (.leaf 20) (.leaf 21)) (.node 23 (.leaf 22) (.leaf 23)))) (.node 28 (.node 26 (.node 25 (.leaf 24) (.leaf 25)) (.node 27 (.leaf 26) (.leaf 27))) (.node 30 (.node 29 (.leaf 28) (.leaf 29)) (.node 31 (.leaf 30) (.leaf 31)))))) (.node 48 (.node 40 (.node 36 (.node 34 (.node 33 (.leaf 32) (.leaf 33)) (.node 35 (.leaf 34) (.leaf 35))) (.node 38 (.node 37 (.leaf 36) (.leaf 37)) (.node 39 (.leaf 38) (.leaf 39)))) (.node 44 (.node 42 (.node 41 (.leaf 40) (.leaf 41)) (.node 43 (.leaf 42) (.leaf 43))) (.node 46 (.node 45 (.leaf 44) (.leaf 45)) (.node 47 (.leaf 46) (.leaf 47))))) (.node 56 (.node 52 (.node 50 (.node 49 (.leaf 48) (.leaf 49)) (.node 51 (.leaf 50) (.leaf 51))) (.node 54 (.node 53 (.leaf 52) (.leaf 53)) (.node 55 (.leaf 54) (.leaf 55)))) (.node 60 (.node 58 (.node 57 (.leaf 56) (.leaf 57)) (.node 59 (.leaf 58) (.leaf 59))) (.node 62 (.node 61 (.leaf 60) (.leaf 61)) (.node 63 (.leaf 62) (.leaf 63))))))) (.node 96 (.node 80 (.node 72 (.node 68 (.node 66 (.node 65 (.leaf 64) (.leaf 65)) (.node 67 (.leaf 66) (.leaf 67))) (.node 70 (.node 69 (.leaf 68) (.leaf 69)) (.node 71 (.leaf 70) (.leaf 71)))) (.node 76 (.node 74 (.node 73 (.leaf 72) (.leaf 73)) (.node 75 (.leaf 74) (.leaf 75))) (.node 78 (.node 77 (.leaf 76) (.leaf 77)) (.node 79 (.leaf 78) (.leaf 79))))) (.node 88 (.node 84 (.node 82 (.node 81 (.leaf 80) (.leaf 81)) (.node 83 (.leaf 82) (.leaf 83))) (.node 86 (.node 85 (.leaf 84) (.leaf 85)) (.node 87 (.leaf 86) (.leaf 87)))) (.node 92 (.node 90 (.node 89 (.leaf 88) (.leaf 89)) (.node 91 (.leaf 90) (.leaf 91))) (.node 94 (.node 93 (.leaf 92) (.leaf 93)) (.node 95 (.leaf 94) (.leaf 95)))))) (.node 112 (.node 104 (.node 100 (.node 98 (.node 97 (.leaf 96) (.leaf 97)) (.node 99 (.leaf 98) (.leaf 99))) (.node 102 (.node 101 (.leaf 100) (.leaf 101)) (.node 103 (.leaf 102) (.leaf 103)))) (.node 108 (.node 106 (.node 105 (.leaf 104) (.leaf 105)) (.node 107 (.leaf 106) (.leaf 107))) (.node 110 (.node 109 (.leaf 108) (.leaf 109)) (.node 111 (.leaf 110) (.leaf 111))))) (.node 120 (.node 116 (.node 114 (.node 113 (.leaf 112) (.leaf 113)) (.node 115 (.leaf 114) (.leaf 115))) (.node 118 (.node 117 (.leaf 116) (.leaf 117)) (.node 119 (.leaf 118) (.leaf 119)))) (.node 124 (.node 122 (.node 121 (.leaf 120) (.leaf 121)) (.node 123 (.leaf 122) (.leaf 123))) (.node 126 (.node 125 (.leaf 124) (.leaf 125)) (.node 127 (.leaf 126) (.leaf 127))))))))
def fN {β:Sort _} (n:Nat) (k:Nat->β):β:=fT trs n k
theorem fN_eq {β:Sort _} (n:Nat) (k:Nat->β):fN n k=k n:=fT_eq _ _ _
def fB {β:Sort _} (b:Bool) (k:Bool->β):β :=
 match b with
 |true=>k true
 |false=>k false
theorem fB_eq {β:Sort _} (b:Bool) (k:Bool->β):fB b k=k b:=by cases b<;>rfl
def fQ {β:Sort _} (q:Nat) (k:Nat->β):β :=
 fN (q%1000) fun f=>fN (q%1000000 / 1000) fun s=>fN (q / 1000000) fun t=>k (f+(1000*s+1000000*t))
theorem fQ_eq {β:Sort _} (q:Nat) (k:Nat->β):fQ q k=k q:=by
 unfold fQ;rw[fN_eq,fN_eq,fN_eq]
 congr 1
 omega
def fA {β:Sort _} (a:Addr) (k:Addr->β):β :=
 match a with
 |⟨b,o,none⟩=>fN b fun b=>k ⟨b,o,none⟩
 |⟨b,o,some q⟩=>fN b fun b=>fQ q fun q=>k ⟨b,o,some q⟩
theorem fA_eq {β:Sort _} (a:Addr) (k:Addr->β):fA a k=k a:=by
 obtain⟨b,o,s⟩:=a;cases s with
 |none=>simp only[fA,fN_eq]
 |some q=>simp only[fA,fN_eq,fQ_eq]
def fV0 {β:Sort _} (v:Value) (k:Value->β):β :=
 match v with
 |.pointer (some a)=>fA a fun a=>k (.pointer (some a))
 |.slice (some a) n c=>fA a fun a=>k (.slice (some a) n c)
 |.slice none n c=>k (.slice none n c)
 |.pointer none=>k (.pointer none)
 |.int t n=>k (.int t n)
 |.bool b=>k (.bool b)
 |.string s=>k (.string s)
 |v=>k v
theorem fV0_eq {β:Sort _} (v:Value) (k:Value->β):fV0 v k=k v:=by
 unfold fV0;split<;>simp only[fA_eq]
def fVs {β:Sort _}:List Value->(List Value->β)->β
 |[],k=>k []
 |v::l,k=>fV0 v fun v=>fVs l fun l=>k (v::l)
theorem fVs_eq {β:Sort _} (l:List Value) (k:List Value->β):fVs l k=k l:=by
 induction l generalizing k with
 |nil=>rfl
 |cons v l ih=>simp only[fVs,fV0_eq,ih]
def fV {β:Sort _} (v:Value) (k:Value->β):β :=
 match v with
 |.agg ⟨l⟩=>fVs l fun l=>k (.agg ⟨l⟩)
 |.tuple ⟨l⟩=>fVs l fun l=>k (.tuple ⟨l⟩)
 |v=>fV0 v k
theorem fV_eq {β:Sort _} (v:Value) (k:Value->β):fV v k=k v:=by
 unfold fV;split
 ·rw[fVs_eq]
 ·rw[fVs_eq]
 ·rw[fV0_eq]
def fVl {β:Sort _}:List Value->(List Value->β)->β
 |[],k=>k []
 |v::l,k=>fV v fun v=>fVl l fun l=>k (v::l)
theorem fVl_eq {β:Sort _} (l:List Value) (k:List Value->β):fVl l k=k l:=by
 induction l generalizing k with
 |nil=>rfl
 |cons v l ih=>simp only[fVl,fV_eq,ih]
def fTm {β:Sort _}:List (Option Value)->(List (Option Value)->β)->β
 |[],k=>k []
 |none::l,k=>fTm l fun l=>k (none::l)
 |some v::l,k=>fV v fun v=>fTm l fun l=>k (some v::l)
theorem fTm_eq {β:Sort _} (l:List (Option Value)) (k:List (Option Value)->β):fTm l k=k l:=by
 induction l generalizing k with
 |nil=>rfl
 |cons v l ih=>cases v<;>simp only[fTm,fV_eq,ih]
def fLi {β:Sort _}:List (Nat×Bool)->(List (Nat×Bool)->β)->β
 |[],k=>k []
 |(t,b)::l,k=>fB b fun b=>fLi l fun l=>k ((t,b)::l)
theorem fLi_eq {β:Sort _} (l:List (Nat×Bool)) (k:List (Nat×Bool)->β):fLi l k=k l:=by
 induction l generalizing k with
 |nil=>rfl
 |cons v l ih=>obtain⟨t,b⟩:=v;simp only[fLi,fB_eq,ih]
def fNs {β:Sort _}:List Nat->(List Nat->β)->β
 |[],k=>k []
 |n::l,k=>fN n fun n=>fNs l fun l=>k (n::l)
theorem fNs_eq {β:Sort _} (l:List Nat) (k:List Nat->β):fNs l k=k l:=by
 induction l generalizing k with
 |nil=>rfl
 |cons v l ih=>simp only[fNs,fN_eq,ih]
def fCs {β:Sort _}:List Col->(List Col->β)->β
 |[],k=>k []
 |⟨i,b,s⟩::l,k=>fCs l fun l=>k (⟨i,b,s⟩::l)
theorem fCs_eq {β:Sort _} (l:List Col) (k:List Col->β):fCs l k=k l:=by
 induction l generalizing k with
 |nil=>rfl
 |cons v l ih=>obtain⟨i,b,s⟩:=v;simp only[fCs,ih]
def fRow {β:Sort _} (r:Row) (k:Row->β):β :=
 match r with
 |⟨tm,n,cs⟩=>fVs tm fun tm=>fCs cs fun cs=>k ⟨tm,n,cs⟩
theorem fRow_eq {β:Sort _} (r:Row) (k:Row->β):fRow r k=k r:=by
 obtain⟨tm,n,cs⟩:=r;simp only[fRow,fVs_eq,fCs_eq]
section
variable {R:Type}
def fSB {β:Sort _} (b:SB R) (k:SB R->β):β :=
 match b with
 |.inl (t,cs)=>fN t fun t=>fVl cs fun cs=>k (.inl (t,cs))
 |.inr (.inl (t,r))=>fN t fun t=>fRow r fun r=>k (.inr (.inl (t,r)))
 |.inr (.inr (.inl r))=>fRow r fun r=>k (.inr (.inr (.inl r)))
 |.inr (.inr (.inr x))=>k (.inr (.inr (.inr x)))
theorem fSB_eq {β:Sort _} (b:SB R) (k:SB R->β):fSB b k=k b:=by
 rcases b with⟨t,cs⟩|⟨t,r⟩|r|x<;>simp only[fSB,fVl_eq,fRow_eq,fN_eq]
def fHp {β:Sort _}:Hp R->(Hp R->β)->β
 |[],k=>k []
 |none::l,k=>fHp l fun l=>k (none::l)
 |some b::l,k=>fSB b fun b=>fHp l fun l=>k (some b::l)
theorem fHp_eq {β:Sort _} (l:Hp R) (k:Hp R->β):fHp l k=k l:=by
 induction l generalizing k with
 |nil=>rfl
 |cons v l ih=>cases v<;>simp only[fHp,fSB_eq,ih]
def fSS {β:Sort _} (σ:SS R) (k:SS R->β):β :=
 match σ with
 |⟨tm,li,hp⟩=>fTm tm fun tm=>fLi li fun li=>fHp hp fun hp=>k ⟨tm,li,hp⟩
theorem fSS_eq {β:Sort _} (σ:SS R) (k:SS R->β):fSS σ k=k σ:=by
 obtain⟨tm,li,hp⟩:=σ;simp only[fSS,fTm_eq,fLi_eq,fHp_eq]
end
end Rx
namespace Rx
open Go.RowKit State
section
variable {R:Type} {D:Res R} {P:Program} {T:Tab R} {C:Ctx} {w w':World}
def easy (σ:SS R) (o:Oper):Bool :=
 match o with
 |⟨dst,op,ty,pos,after,guard⟩ =>
 match op with
 |.move _|.assign _|.pick _ _ _|.alloc _|.box _ _|.build _ _|.buildSlice _ _ _|.nilCheck _|.unOp _ _ _|.fieldAddr _ _ _|.field _ _ _|.extract _ _=>true
 |.load _ y|.store _ y _=>match ev σ.tm y with
  |some (.pointer (some ⟨_,_,none⟩))=>true
  |_=>false
 |.binOp op _ y z _=>match binKind op (ev σ.tm y) (ev σ.tm z) with
  |1=>false
  |2=>false
  |_=>true
 |.call ⟨.builtin b,_,_⟩=>match b with
  |.append=>false
  |_=>true
 |_=>false
theorem opPure_vc {σ:SS R} {o:Oper} {x:Out R} (h:opPure P σ o=some x):x.vc:=by
 unfold opPure at h;split at h
 ·split at h
  ·split at h
   ·injection h with h;subst h;trivial
   ·cases h
  ·cases h
 ·cases h
theorem opMove_vc {σ:SS R} {y:Operand} {x:Out R} (h:opMove σ y=some x):x.vc:=by
 unfold opMove at h;split at h
 ·injection h with h;subst h;trivial
 ·cases h
theorem newCells_vc {σ:SS R} {t:TypeId} {cs:List Value} {x:Out R} (h:newCells σ t cs=some x):x.vc:=by
 unfold newCells at h;injection h with h;subst h;trivial
theorem opNilSlice_vc {σ:SS R} {t:TypeId} {x:Out R} (h:opNilSlice P σ t=some x):x.vc:=by
 unfold opNilSlice at h;split at h
 ·split at h
  ·injection h with h;subst h;trivial
  ·cases h
 ·cases h
theorem easy_vc {σ:SS R} {o:Oper} {x:Out R} {way:Bool} (h:sop P T σ o way=some x) (he:easy σ o=true):x.vc:=by
 obtain⟨dst,op,ty,pos,after,guard⟩:=o;unfold sop at h;unfold easy at he;cases op<;>simp only at h he<;>try (cases he)
 case move y =>
  unfold opAssign at h;split at h
  ·split at h
   ·rename_i hx;injection h with h;subst h;exact opNilSlice_vc hx
   ·exact opMove_vc h
  ·exact opMove_vc h
 case assign y =>
  unfold opAssign at h;split at h
  ·split at h
   ·rename_i hx;injection h with h;subst h;exact opNilSlice_vc hx
   ·exact opMove_vc h
  ·exact opMove_vc h
 case pick c y z =>
  unfold opPick at h;split at h
  ·exact opMove_vc h
  ·exact opMove_vc h
  ·split at h
   ·injection h with h;subst h;trivial
   ·cases h
 case alloc t =>
  unfold opAlloc at h;split at h
  ·split at h
   ·split at h
    ·exact newCells_vc h
    ·cases h
   ·cases h
  ·cases h
 case box t y =>
  unfold opBox at h;split at h
  ·exact newCells_vc h
  ·cases h
 case build t ps =>
  obtain⟨ps⟩:=ps;simp only at h;unfold opBuild at h;split at h
  ·split at h
   ·split at h
    ·split at h
     ·injection h with h;subst h;trivial
     ·cases h
    ·cases h
   ·cases h
  ·split at h
   ·split at h
    ·split at h
     ·injection h with h;subst h;trivial
     ·cases h
    ·cases h
   ·cases h
  ·cases h
 case buildSlice t n ps =>
  obtain⟨ps⟩:=ps;simp only at h;split at h
  ·rename_i hx;injection h with h
   subst h;unfold opBuildSlice at hx;split at hx
   ·split at hx
    ·split at hx
     ·split at hx
      ·injection hx with hx;subst hx;trivial
      ·cases hx
     ·cases hx
    ·cases hx
   ·cases hx
  ·unfold opBuildCells at h
   repeat' split at h
   all_goals first
    |(injection h with h;subst h;trivial)
    |cases h
 case load t y =>
  split at he
  ·rename_i i e hy;unfold opLoadT at h;rw[hy] at h;simp only at h;split at h
   ·rename_i x' h';injection h with h
    subst h;unfold opLoad at h';rw[hy] at h';simp only at h';split at h'
    ·split at h'
     ·split at h'
      ·injection h' with h';subst h';trivial
      ·cases h'
     ·split at h'
      ·injection h' with h';subst h';trivial
      ·cases h'
     ·cases h'
    ·cases h'
   ·repeat' split at h
    all_goals first
     |(injection h with h;subst h;trivial)
     |cases h
  ·cases he
 case store t y z =>
  split at he
  ·rename_i i e hy;split at h
   ·unfold opStore at h;rw[hy] at h;cases hz:ev σ.tm z with
    |none=>rw[hz] at h;cases h
    |some v =>
     rw[hz] at h;simp only at h;split at h
     ·split at h
      ·injection h with h;subst h;trivial
      ·cases h
     ·cases h
   ·cases h
  ·cases he
 case nilCheck y =>
  unfold opNil at h;split at h
  ·injection h with h;subst h;trivial
  ·injection h with h;subst h;trivial
  ·cases h
 case binOp b t y z u =>
  unfold opBin at h;split at he
  ·cases he
  ·cases he
  ·rename_i n1 n2;split at h
   ·rename_i hk;exact absurd hk n1
   ·rename_i hk;exact absurd hk n2
   ·have key:∀ neg,opEqNil P σ neg t y z=some x->x.vc:=fun neg h=>by
     unfold opEqNil at h;split at h
     ·split at h
      ·injection h with h;subst h;trivial
      ·cases h
     ·cases h
    split at h
    ·exact key _ h
    ·exact key _ h
    ·cases h
   ·have key:∀ neg,opEqAgg P σ neg t y z=some x->x.vc:=fun neg h=>by
     unfold opEqAgg at h;split at h
     ·split at h
      ·split at h
       ·split at h
        ·injection h with h;subst h;trivial
        ·cases h
       ·cases h
      ·cases h
     ·cases h
    split at h
    ·exact key _ h
    ·exact key _ h
    ·cases h
   ·have key:∀ neg,opEqPtr P σ (ownsB T) neg t y z=some x->x.vc:=fun neg h=>by
     unfold opEqPtr at h
     repeat' split at h
     all_goals first
      |(injection h with h;subst h;trivial)
      |cases h
    split at h
    ·exact key _ h
    ·exact key _ h
    ·cases h
   ·exact opPure_vc h
 case unOp u t y =>
  split at h
  ·unfold opNot at h;split at h
   ·injection h with h;subst h;trivial
   ·cases h
  ·exact opPure_vc h
 case fieldAddr t y k =>
  unfold opFieldAddr at h;split at h
  ·split at h
   ·split at h
    ·split at h
     ·split at h
      ·cases h
      ·split at h
       ·injection h with h;subst h;trivial
       ·split at h
        ·injection h with h;subst h;trivial
        ·cases h
     ·cases h
    ·cases h
   ·cases h
  ·cases h
 case field t y k =>
  unfold opField at h;split at h
  ·split at h
   ·split at h
    ·split at h
     ·split at h
      ·injection h with h;subst h;trivial
      ·cases h
     ·injection h with h;subst h;trivial
     ·cases h
    ·cases h
   ·cases h
  ·cases h
 case extract y k =>
  unfold opExtract at h;split at h
  ·split at h
   ·injection h with h;subst h;trivial
   ·cases h
  ·cases h
 case call c =>
  obtain⟨callee,args,ts⟩:=c;obtain⟨args⟩:=args;obtain⟨ts⟩:=ts;cases callee<;>simp only at h he<;>try (cases he)
  rename_i b;split at h
  ·simp at he
  ·split at h
   ·unfold opLen at h;split at h
    ·injection h with h;subst h;trivial
    ·cases h
   ·exact opPure_vc h
  ·exact opPure_vc h
structure Vc (p:Prop):Prop where
 out:p
structure Post (p:Prop):Prop where
 out:p
def also (e:Bool) (p q:Prop):Prop :=
 match e with
 |true=>q
 |false=>Vc p/\q
structure Stuck (why:Nat):Prop where
 out:False
theorem Stuck.elim {n:Nat} {p:Prop} (h:Stuck n):p:=h.out.elim
def isUndef (v:Value):Bool :=
 match v with
 |.tuple ⟨[]⟩=>true
 |_=>false
theorem isUndef_eq {v:Value} (h:isUndef v=true):v=Go.undef:=by
 unfold isUndef at h;split at h
 ·rfl
 ·cases h
def rxOp1 (P:Program) (T:Tab R) (σ:SS R) (o:Oper) (k:SS R->Prop) (way:Bool):Prop :=
 match sop P T σ o way with
 |some x=>if tidy σ o.dst x then also (easy σ o) x.vc (fSS (putT σ o.dst x.v x.lit x.hp) k) else Stuck 1
 |none=>Stuck 2
def rxOp (P:Program) (T:Tab R) (σ:SS R) (o:Oper) (k:SS R->Prop):Prop :=
 match forkOf P T σ o with
 |none=>rxOp1 P T σ o k true
 |some b=>(b=true->rxOp1 P T σ o k true)/\(b=false->rxOp1 P T σ o k false)
def dstOf (ops:List Oper) (j:Nat):Option Tmp :=
 match ops[j]? with
 |some o=>o.dst
 |none=>none
def rxList (P:Program) (T:Tab R) (ops:List Oper):List Oper->SS R->(SS R->Prop)->Prop
 |[],σ,k=>k σ
 |o::r,σ,k =>
  match o.guard with
  |none=>rxOp P T σ o fun σ'=>rxList P T ops r σ' k
  |some (j,want) =>
   match dstOf ops j with
   |none=>Stuck 3
   |some t =>
    match look σ.li t with
    |some b=>if(b==want)=true then rxOp P T σ o fun σ'=>rxList P T ops r σ' k else fSS (putT σ o.dst undef none σ.hp) fun σ=>rxList P T ops r σ k
    |none =>
     match σ.tm[t]? with
     |some (some (.bool b)) =>
      (b=want->fSS (assume σ t want) fun σ=>rxOp P T σ o fun σ'=>rxList P T ops r σ' k) /\
      (b = !want->fSS (putT (assume σ t (!want)) o.dst undef none σ.hp) fun σ=>rxList P T ops r σ k)
     |some (some v) =>
      match isUndef v with
      |true=>fSS (putT σ o.dst undef none σ.hp) fun σ=>rxList P T ops r σ k
      |false=>Stuck 4
     |_=>Stuck 4
theorem M_li {σ:SS R} {a:Act} {t:Nat} {b:Bool} (hm:M D C σ a w) (h:σ.tm[t]?=some (some (.bool b))):a.tmps[t]?=some (.bool b):=by
 obtain⟨ρ,ft,_,h1,_⟩:=hm.ex;have:=(h1.val t _ h).1
 simpa using this
theorem yielded_of {ops:List Oper} {j t:Nat} {a:Act} {b:Bool} (h:dstOf ops j=some t) (ha:a.tmps[t]?=some (.bool b)):yielded ops.toArray a.tmps j=some b:=by
 unfold dstOf at h;unfold yielded;split at h
 ·rename_i o ho;simp[ho,h,ha]
 ·cases h
theorem yielded_no {ops:List Oper} {σ:SS R} {j t:Nat} {a:Act} (hm:M D C σ a w) (h:dstOf ops j=some t) (ht:σ.tm[t]?=some (some undef)):yielded ops.toArray a.tmps j=none:=by
 have ha:a.tmps[t]?=some undef:=by
  obtain⟨ρ,ft,_,h1,_⟩:=hm.ex;have:=(h1.val t _ ht).1
  simpa [undef,ren,renL] using this
 unfold dstOf at h;unfold yielded;split at h
 ·rename_i o ho;simp[ho,h,ha,undef]
 ·cases h
theorem rxOp_ok (hT:TabOk D P T) {σ:SS R} {o:Oper} {k:SS R->Prop} {a:Act} {K:Act->World->Prop} {Q:Exit->Act->World->Prop} (h:rxOp P T σ o k) (hm:M D C σ a w) (hn:C.n0≤σ.hp.length)
  (hK:∀ σ' a' w',k σ'->σ.hp.length≤σ'.hp.length->M D C σ' a' w'->K a' w'):o.wp P a w K Q:=by
 have one:∀ b,goes (forkOf P T σ o) b->rxOp1 P T σ o k b->o.wp P a w K Q:=by
  intro b hb h;unfold rxOp1 at h;split at h
  ·rename_i x hx;split at h
   ·rename_i ht;have hok:=sop_ok hT hb hx;have:x.vc/\k (putT σ o.dst x.v x.lit x.hp):=by
     rw[fSS_eq] at h;unfold also at h;split at h
     ·rename_i he;exact⟨easy_vc hx he,h⟩
     ·exact⟨h.1.out,h.2⟩
    exact hm.step hok ht this.1 (fun a' w' hm'=>hK _ a' w' this.2 (by rw[putT_hp];exact hok.len) hm') hn
   ·exact h.elim
  ·exact h.elim
 unfold rxOp at h;split at h
 ·rename_i hf;exact one true (Or.inl ⟨hf,rfl⟩) h
 ·rename_i b hf;cases b with
  |true=>exact one true (Or.inr hf) (h.1 rfl)
  |false=>exact one false (Or.inr hf) (h.2 rfl)
theorem rxList_ok (hT:TabOk D P T) {ops:List Oper} {Q:Exit->Act->World->Prop}:∀ (rest:List Oper) {σ:SS R} {k:SS R->Prop} {a:Act} {w:World},rxList P T ops rest σ k->M D C σ a w->C.n0≤σ.hp.length ->
  (∀ σ' a' w',k σ'->C.n0≤σ'.hp.length->M D C σ' a' w'->Q .normal a' w')->wpList P ops.toArray Q rest a w
 |[],σ,k,a,w,h,hm,hn,hK=>hK σ a w h hn hm
 |o::r,σ,k,a,w,h,hm,hn,hK=>by
  simp only[rxList,fSS_eq] at h;have run:∀ {σ:SS R},Region.wanted o (yielded ops.toArray a.tmps)=true->M D C σ a w->C.n0≤σ.hp.length->(rxOp P T σ o fun σ'=>rxList P T ops r σ' k)->wpList P ops.toArray Q (o::r) a w:=by
   intro σ hw hm hn h;unfold wpList;rw[if_pos hw];exact Or.inl (rxOp_ok hT h hm hn fun σ' a' w' h' hl' hm'=>rxList_ok hT r h' hm' (Nat.le_trans hn hl') hK)
  have skip:∀ {σ:SS R},Region.wanted o (yielded ops.toArray a.tmps)=false->M D C σ a w->C.n0≤σ.hp.length->rxList P T ops r (putT σ o.dst undef none σ.hp) k->wpList P ops.toArray Q (o::r) a w:=by
   intro σ hw hm hn h;unfold wpList;rw[if_neg (by simp[hw])]
   exact rxList_ok hT r h hm.undef (by rw[putT_hp];exact hn) hK
  split at h
  ·rename_i hg;exact run (by simp[Region.wanted,hg]) hm hn h
  ·rename_i j want hg;split at h
   ·exact h.elim
   ·rename_i t hd;split at h
    ·rename_i b hl;have hy:=yielded_of hd (M_li hm (hm.li t b (look_mem hl)));split at h
     ·rename_i hb;exact run (by simp[Region.wanted,hg,hy];simpa using hb) hm hn h
     ·rename_i hb;exact skip (by simp[Region.wanted,hg,hy];simpa using hb) hm hn h
    ·split at h
     ·rename_i b hb;have hy:=yielded_of hd (M_li hm hb)
      by_cases he:b=want
      ·subst he;exact run (by simp[Region.wanted,hg,hy]) (hm.assume hb) (by simpa [assume] using hn) (h.1 rfl)
      ·have he2:b = !want:=by cases b<;>cases want<;>simp_all
       have h2:=h.2 he2;rw[he2] at hb;exact skip (by simp[Region.wanted,hg,hy];exact he) (hm.assume hb) (by simpa [assume] using hn) h2
     ·rename_i v hn' hb;split at h
      ·rename_i hu;rw[isUndef_eq hu] at hb;have hy:=yielded_no hm hd hb;have e:Region.wanted o (yielded ops.toArray a.tmps)=((none:Option Bool)==some want):=by simp only[Region.wanted,hg,hy]
       exact skip (by rw[e];cases want<;>rfl) hm hn h
      ·exact h.elim
     ·exact h.elim
def codeAt:Code->List Nat->Option Code
 |c,[]=>some c
 |.seq a _,0::p=>codeAt a p
 |.seq _ b,1::p=>codeAt b p
 |.cond _ a _,0::p=>codeAt a p
 |.cond _ _ b,1::p=>codeAt b p
 |.block _ c,0::p=>codeAt c p
 |.loop c,0::p=>codeAt c p
 |_,_=>none
theorem codeAt_append:∀ (p:List Nat) (c d:Code) (q:List Nat),codeAt c p=some d->codeAt c (p++q)=codeAt d q
 |[],c,d,q,h=>by
  cases c<;>simp only[codeAt] at h<;>(injection h with h;subst h;rfl)
 |i::p,c,d,q,h=>by
  cases c<;>simp only[List.cons_append]<;>(try (cases i<;>simp only[codeAt] at h<;>cases h))
  ·rename_i a b;rcases i with _|_|i
   ·exact codeAt_append p a d q h
   ·exact codeAt_append p b d q h
   ·simp[codeAt] at h
  ·rename_i x a b;rcases i with _|_|i
   ·exact codeAt_append p a d q h
   ·exact codeAt_append p b d q h
   ·simp[codeAt] at h
  ·rename_i id a;rcases i with _|i
   ·exact codeAt_append p a d q h
   ·simp[codeAt] at h
  ·rename_i a;rcases i with _|i
   ·exact codeAt_append p a d q h
   ·simp[codeAt] at h
abbrev It (R:Type):=(List Nat) ⊕ Nat ⊕ (SS R->Prop)
def stk (D:Res R) (P:Program) (C:Ctx) (root:Code) (k:Exit->SS R->Prop):List (It R)->Exit->Act->World->Prop
 |[],e,a,w=>∃ σ,k e σ/\M D C σ a w
 |.inl p::r,e,a,w=>match e with
  |.normal=>match codeAt root p with
   |some c=>c.wp P (stk D P C root k r) a w
   |none=>False
  |e=>stk D P C root k r e a w
 |.inr (.inl id)::r,e,a,w=>Exit.inBlock id (stk D P C root k r) e a w
 |.inr (.inr J)::r,e,a,w=>match e with
  |.normal=>∃ σ,J σ/\C.n0≤σ.hp.length/\M D C σ a w
  |e=>stk D P C root k r e a w
structure At (D:Res R) (P:Program) (root:Code) (n0:Nat) (k:Exit->SS R->Prop) (todo:List (It R)) (σ:SS R):Prop where
 run:∀ C a w,C.n0=n0->n0≤σ.hp.length->M D C σ a w->stk D P C root k todo .normal a w
def popTo (id:Nat):List (It R)->Option (List (It R))
 |[]=>none
 |.inr (.inl i)::r=>if Nat.beq i id then some r else popTo id r
 |.inl _::r=>popTo id r
 |.inr (.inr _)::r=>popTo id r
theorem stk_exit {root:Code} {k:Exit->SS R->Prop} {id:Nat} {a:Act}:∀ {todo:List (It R)},
  (match popTo id todo with|some r=>stk D P C root k r .normal a w|none=>∃ σ,k (.exit id) σ/\M D C σ a w)->stk D P C root k todo (.exit id) a w
 |[],h=>h
 |.inl _::r,h=>by simp only[popTo] at h;simp only[stk];exact stk_exit h
 |.inr (.inr _)::r,h=>by simp only[popTo] at h;simp only[stk];exact stk_exit h
 |.inr (.inl i)::r,h=>by
  simp only[popTo] at h;simp only[stk,Exit.inBlock]
  by_cases he:i=id
  ·subst he;rw[if_pos rfl];rw[if_pos (by simp)] at h
   exact h
  ·rw[if_neg (fun e=>he e.symm)]
   rw[if_neg (by simp[he])] at h
   exact stk_exit h
theorem stk_ret {root:Code} {k:Exit->SS R->Prop} {a:Act}:∀ {todo:List (It R)},(∃ σ,k .ret σ/\M D C σ a w)->stk D P C root k todo .ret a w
 |[],h=>h
 |.inl _::r,h=>by simp only[stk];exact stk_ret h
 |.inr (.inr _)::r,h=>by simp only[stk];exact stk_ret h
 |.inr (.inl i)::r,h=>by simp only[stk,Exit.inBlock];exact stk_ret h
end
end Rx
namespace Rx
open Go.RowKit State
def vals (tm:List (Option Value)):List Nat->List (Option Value)
 |[]=>[]
 |t::ts=>(match tm[t]? with
  |some (some v)=>some v
  |_=>none)::vals tm ts
def someL:List Value->List (Option Value)
 |[]=>[]
 |v::l=>some v::someL l
def slot (ts:List Nat) (vs:List Value) (i:Nat):Option Value :=
 match ts,vs with
 |t::ts,v::vs=>if Nat.beq t i then some v else slot ts vs i
 |_,_=>none
def frame (ts:List Nat) (vs:List Value):Nat->Nat->List (Option Value)
 |_,0=>[]
 |i,n+1=>slot ts vs i::frame ts vs (i+1) n
section
variable {R:Type} {D:Res R} {P:Program} {T:Tab R} {C:Ctx} {ρ:Env} {ft:Nat->Nat->Prop} {w w':World}
def hpIn (n:Nat):Hp R->Bool
 |[]=>true
 |some (.inl (_,cs))::h=>inbL n cs&&hpIn n h
 |_::h=>hpIn n h
theorem hpIn_get:∀ {r:Hp R} {n i:Nat} {B:SB R},hpIn n r=true->r[i]?=some (some B)->inside n B
 |[],n,i,B,_,hB=>by simp at hB
 |x::r,n,i,B,h,hB=>by
  have hr:hpIn n r=true/\(i=0->inside n B):=by
   rcases x with _|⟨t,cs⟩|⟨t,ro⟩|ro|x
   ·exact⟨h,fun e=>by subst e;simp at hB⟩
   ·simp only[hpIn,Bool.and_eq_true] at h;exact⟨h.2,fun e=>by subst e;simp only[List.getElem?_cons_zero,Option.some.injEq] at hB;subst hB;exact h.1⟩
   ·exact⟨h,fun e=>by subst e;simp only[List.getElem?_cons_zero,Option.some.injEq] at hB;subst hB;trivial⟩
   ·exact⟨h,fun e=>by subst e;simp only[List.getElem?_cons_zero,Option.some.injEq] at hB;subst hB;trivial⟩
   ·exact⟨h,fun e=>by subst e;simp only[List.getElem?_cons_zero,Option.some.injEq] at hB;subst hB;trivial⟩
  cases i with
  |zero=>exact hr.2 rfl
  |succ i=>simp only[List.getElem?_cons_succ] at hB;exact hpIn_get hr.1 hB
theorem frame_get (ts:List Nat) (vs:List Value):∀ (n i j:Nat),(frame ts vs i n).length=n/\(j<n->(frame ts vs i n)[j]?=some (slot ts vs (i+j)))
 |0,i,j=>⟨rfl,fun h=>by omega⟩
 |n+1,i,j=>by
  obtain⟨h1,h2⟩:=frame_get ts vs n (i+1) (j-1);refine⟨by simp[frame,h1],fun h=>?_⟩
  cases j with
  |zero=>simp[frame]
  |succ j =>
   simp only[frame,List.getElem?_cons_succ];have:=h2 (by omega)
   simp only[Nat.add_sub_cancel] at this;rw[this]
   congr 2
   omega
def resOne (P:Program) (σ:SS R):ResultVar->Option Value
 |.tmp t=>ev σ.tm (.tmp t)
 |.cell p t =>
  match ev σ.tm (.tmp p) with
  |some (.pointer (some ⟨i,e,none⟩))=>match opLoad P σ t (.tmp p) with
   |some x=>some x.v
   |none=>none
  |_=>none
def resAll (P:Program) (σ:SS R):List ResultVar->Option (List Value)
 |[]=>some []
 |r::l =>
  match resOne P σ r,resAll P σ l with
  |some v,some vs=>some (v::vs)
  |_,_=>none
def pack:List Value->Value
 |[v]=>v
 |vs=>.tuple ⟨vs⟩
def retK (P:Program) (rs:List ResultVar) (G:Value->Hp R->Prop) (e:Exit) (σ:SS R):Prop :=
 match e with
 |.ret|.normal=>match resAll P σ rs with
  |some vs=>Post (G (pack vs) σ.hp)
  |none=>Stuck 8
 |_=>Stuck 9
def resFn (a:Act):ResultVar->Sem Value
 |.tmp t=>pure (a.tmps.getD t undef)
 |.cell p t=>do loadVar t (← asAddr (a.tmps.getD p undef))
theorem resOne_ok {σ:SS R} {r:ResultVar} {v:Value} {a:Act} (ht:TM ρ σ.hp.length σ.tm a) (hm:HM D C ρ ft σ.hp w) (hl:LI σ.li σ.tm) (h:resOne P σ r=some v) :
  (resFn a r).run P w=.ok (ren ρ v) w:=by
 unfold resFn;cases r with
 |tmp t =>
  simp only[resOne] at h;have:=(ev_eval ht h).1;simp only[Act.eval] at this;simp[← this]
 |cell p t =>
  simp only[resOne] at h;split at h
  ·rename_i i e hp;split at h
   ·rename_i x hx;injection h with h
    subst h;have hev:=(ev_eval ht hp).1;simp only[Act.eval,ren] at hev;have hok := opLoad_ok (D := D) (o := ⟨none, .load t (.tmp p), 0, "", #[], none⟩) rfl hx
    have hvc:x.vc:=by
     unfold opLoad at hx;rw[hp] at hx;simp only at hx;split at hx
     ·split at hx
      ·split at hx
       ·injection hx with hx;subst hx;trivial
       ·cases hx
      ·split at hx
       ·injection hx with hx;subst hx;trivial
       ·cases hx
      ·cases hx
     ·cases hx
    have hrun:∃ v',(loadVar t (renA ρ ⟨i,e,none⟩)).run P w=.ok v' w/\v'=ren ρ x.v:=by
     unfold opLoad at hx;rw[hp] at hx;simp only at hx;split at hx
     ·rename_i t' cs hi;split at hx
      ·rename_i hg;split at hx
       ·rename_i v hv;injection hx with hx
        subst hx;have hc:=cells_reads hm hi e;rw[hv] at hc;exact⟨_,loadVar_one hg (by simpa [renA,cellOf,quietOut] using hc),rfl⟩
       ·cases hx
      ·rename_i n hg;split at hx
       ·rename_i hle;have hle:=Nat.le_of_ble_eq_true hle;injection hx with hx
        subst hx;have hl:(((cs.drop e).take n).map (ren ρ)).length=n:=by simp;omega
        refine⟨_,loadVar_agg (cs:=((cs.drop e).take n).map (ren ρ)) (by rw[hl];exact hg) (fun j v hv=>?_),?_⟩
        ·simp only[renA,cellOf];rw[add_at,Nat.add_assoc,cells_reads hm hi];have hj:j<n:=by have:=(List.getElem?_eq_some_iff.1 hv).1;omega
         simp only[List.getElem?_map,List.getElem?_take,hj,if_true,List.getElem?_drop] at hv;exact hv
        ·show _=ren ρ (.agg _)
         rw[ren_agg];simp
       ·cases hx
      ·cases hx
     ·cases hx
    obtain⟨v',h1,rfl⟩:=hrun;simp only[Sem.run_bind,hev,asAddr,Sem.run_pure,Result.andThen_ok,h1]
   ·cases h
  ·cases h
theorem resAll_ok {σ:SS R} {a:Act} (ht:TM ρ σ.hp.length σ.tm a) (hm:HM D C ρ ft σ.hp w) (hl:LI σ.li σ.tm):∀ {rs:List ResultVar} {vs:List Value},resAll P σ rs=some vs ->
  (rs.mapM (m:=Sem) (resFn a)).run P w=.ok (vs.map (ren ρ)) w
 |[],vs,h=>by
  simp only[resAll] at h;injection h with h
  subst h;simp
 |r::rs,vs,h=>by
  simp only[resAll] at h;split at h
  ·rename_i v vs' hv hvs;injection h with h
   subst h;have h1:=resOne_ok ht hm hl hv;have h2:=resAll_ok ht hm hl hvs;rw[List.mapM_cons,Sem.run_bind,h1,Result.andThen_ok,Sem.run_bind,h2];simp
  ·cases h
theorem results_ok {σ:SS R} {a:Act} {fn:Func} {vs:List Value} (ht:TM ρ σ.hp.length σ.tm a) (hm:HM D C ρ ft σ.hp w) (hl:LI σ.li σ.tm) (h:resAll P σ fn.results.toList=some vs) :
  (results fn a.tmps).run P w=.ok (ren ρ (pack vs)) w:=by
 have h1:=resAll_ok ht hm hl h;have e:results fn a.tmps=(do let vs ← fn.results.mapM (resFn a);pure (if h:vs.size=1 then vs[0] else .tuple vs)):=by
  unfold results
  congr 1
 rw[e,Sem.run_bind,Array.mapM_eq_mapM_toList,Sem.run_map,h1];simp only[Result.andThen_ok,Sem.run_pure]
 congr 1
 cases vs with
 |nil=>simp[pack,ren,renL]
 |cons v l =>
  cases l with
  |nil=>simp[pack]
  |cons u l=>simp[pack,ren,renL,renL_eq]
theorem HM.ctx {C':Ctx} {h:Hp R} (hm:HM D C ρ ft h w) (h1:C'.w0=C.w0) (h2:C'.U=C.U):HM D C' ρ ft h w where
 at_ i B hi:=by
  obtain⟨g1,g2⟩:=hm.at_ i B hi;refine⟨?_,g2⟩;rcases B with⟨t,cs⟩|⟨t,r⟩|r|x
  ·exact g1
  ·exact g1
  ·simp only[hold,h1,h2] at g1 ⊢;exact g1
  ·exact g1
 lt:=hm.lt
 fresh i k hk:=by rw[h1,h2];exact hm.fresh i k hk
 apart:=hm.apart
 some_:=hm.some_
 kept:=by rw[h1,h2];exact hm.kept
theorem calls_At {f:FuncId} {fn:Func} {root:Code} {args:List Value} {hp:Hp R} {G:Value->Hp R->Prop} (hf:P.funcs[f]?=some fn) (hb:fn.body=some root)
  (h:At D P root hp.length (retK P fn.results.toList G) [.inl []] ⟨someL args++List.replicate (fn.ntmps-args.length) none,[],hp⟩) (hm:HM D C ρ ft hp w) (hi:inbL hp.length args=true) :
  Calls P f (args.map (ren ρ)).toArray w fun e w'=>∃ ρ' ft' v hp',(∀ i,i<hp.length->ρ' i=ρ i)/\e=.returned (ren ρ' v)/\G v hp'/\HM D C ρ' ft' hp' w':=by
 have hsl:∀ (l:List Value),someL l=l.map some:=fun l=>by induction l with
  |nil=>rfl
  |cons v l ih=>simp[someL,ih]
 refine calls_of_wp hf hb ?_;have hM:M D ⟨C.w0,C.U,ρ,hp.length⟩ ⟨someL args++List.replicate (fn.ntmps-args.length) none,[],hp⟩ { tmps:=(args.map (ren ρ)).toArray++Array.replicate (fn.ntmps-(args.map (ren ρ)).toArray.size) undef,defers:=[] } w:=by
  refine⟨rfl,fun t b hb=>(by cases hb),ρ,ft,fun i _=>rfl,⟨by simp[hsl],fun t v ht=>?_⟩,hm.ctx rfl rfl⟩
  rw[hsl] at ht;have hlt:t<args.length:=by
   rcases Nat.lt_or_ge t args.length with hlt|hge
   ·exact hlt
   ·rw[List.getElem?_append_right (by simpa using hge),List.getElem?_replicate] at ht
    split at ht
    ·injection ht with ht;cases ht
    ·cases ht
  rw[List.getElem?_append_left (by simpa using hlt),List.getElem?_map] at ht
  cases hv:args[t]? with
  |none=>rw[hv] at ht;cases ht
  |some u =>
   rw[hv] at ht;simp only[Option.map_some,Option.some.injEq] at ht;subst ht;refine⟨?_,inbL_iff.1 hi u (List.mem_of_getElem? hv)⟩;rw[Array.getElem?_append_left (by simpa using hlt)]
   simp[hv]
 have hs:=h.run ⟨C.w0,C.U,ρ,hp.length⟩ _ w rfl (Nat.le_refl _) hM;simp only[stk,codeAt] at hs;refine wp_mono hs fun e a' w' ⟨σ,hk,hM'⟩=>?_
 obtain⟨ρ',ft',g0,g1,g2⟩:=hM'.ex;have key:∀ (e:Exit),retK P fn.results.toList G e σ->(e=.ret∨e=.normal)->∃ v,(results fn a'.tmps).run P w'=.ok v w'/\∃ ρ' ft' v2 hp',(∀ i,i<hp.length->ρ' i=ρ i)/\Ending.returned v=.returned (ren ρ' v2)/\G v2 hp'/\HM D C ρ' ft' hp' w':=by
  intro e hk he;have:∃ vs,resAll P σ fn.results.toList=some vs/\G (pack vs) σ.hp:=by
   rcases he with rfl|rfl
   ·simp only[retK] at hk;split at hk
    ·exact⟨_,by assumption,hk.out⟩
    ·exact hk.elim
   ·simp only[retK] at hk;split at hk
    ·exact⟨_,by assumption,hk.out⟩
    ·exact hk.elim
  obtain⟨vs,h1,h2⟩:=this;exact⟨_,results_ok g1 g2 hM'.li h1,ρ',ft',pack vs,σ.hp,g0,rfl,h2,g2.ctx rfl rfl⟩
 cases e with
 |ret=>exact⟨hM'.defers,key _ hk (Or.inl rfl)⟩
 |normal=>exact⟨hM'.defers,key _ hk (Or.inr rfl)⟩
 |_=>exact Stuck.elim hk
end
end Rx
namespace Rx
open Go.RowKit State
section
variable {R:Type} {D:Res R} {C:Ctx} {ρ ρ':Env} {ft ft':Nat->Nat->Prop} {w w':World} {h hr hx h':Hp R}
def isView:SB R->Bool
 |.inr (.inr (.inl _))=>true
 |_=>false
theorem hold_ctx {C':Ctx} {i:Nat} {F:Nat->Prop} {B:SB R} (hB:isView B=false) (hh:hold D C ρ i F w B):hold D C' ρ i F w B:=by
 rcases B with⟨t,cs⟩|⟨t,r⟩|r|x
 ·exact hh
 ·exact hh
 ·cases hB
 ·exact hh
def Seen (hr:Hp R) (b:Nat):Prop:=∃ X,hr[b]?=some (some X)
def localC (w:World) (hr:Hp R) (ft:Nat->Nat->Prop) (ρ:Env) (n:Nat):Ctx:=⟨w,fun k=>∃ b,Seen hr b/\ft b k,ρ,n⟩
theorem HM.sub (hm:HM D C ρ ft h w) (hsub:∀ (b:Nat) (X:SB R),hr[b]?=some (some X)->h[b]?=some (some X)) (hin:hpIn hr.length hr=true) (n:Nat) :
  HM D (localC w hr ft ρ n) ρ (fun b k=>Seen hr b/\ft b k) hr w where
 at_ i B hB:=by
  obtain⟨h1,h2⟩:=hm.at_ i B (hsub i B hB);refine⟨?_,hpIn_get hin hB⟩;have hft:(fun k=>Seen hr i/\ft i k)=ft i:=funext fun k=>propext ⟨fun h=>h.2,fun h=>⟨⟨B,hB⟩,h⟩⟩
  rw[hft];rcases B with⟨t,cs⟩|⟨t,r⟩|r|x
  ·exact h1
  ·exact h1
  ·obtain⟨g1,g2,g3,g4,g5,arr,g6,g7⟩:=h1;refine⟨g1,g2,g3,g4,g5,arr,fun hn h0=>?_,g7⟩
   obtain⟨q1,q2,t,fz,q3⟩:=g6 hn h0;refine⟨Nat.lt_of_lt_of_le q1 hm.kept.size,fun⟨b,_,hb⟩=>?_,t,fz,by rw[← q3];exact hm.kept.block _ q1 q2⟩
   rcases hm.fresh b _ hb with hu|hge
   ·exact q2 hu
   ·omega
  ·exact h1
 lt i k hk:=hm.lt i k hk.2
 fresh i k hk:=Or.inl ⟨i,hk.1,hk.2⟩
 apart i j k hi hj:=hm.apart i j k hi.2 hj.2
 some_ i k hk:=hk.1
 kept:=Kept.refl _ _
theorem HM.back (hm:HM D C ρ ft h w) (hsub:∀ (b:Nat) (X:SB R),hr[b]?=some (some X)->h[b]?=some (some X)) (hle:hr.length≤h.length) {n:Nat}
  (hm':HM D (localC w hr ft ρ n) ρ' ft' hx w') (hρ:∀ b,b<hr.length->ρ' b=ρ b) (hlx:hr.length≤hx.length) (hal:hr.length<hx.length->hr.length=h.length)
  (hv:∀ (b:Nat) (X:SB R),hx[b]?=some (some X)->(b<hr.length->∃ Y,hr[b]?=some (some Y))/\(isView X=false∨∃ Y,hr[b]?=some (some Y)/\isView Y=true))
  (hlen:h'.length=if hr.length<hx.length then hx.length else h.length)
  (hnew:∀ (b:Nat),(∃ Y,hr[b]?=some (some Y)/\isView Y=false)∨h.length≤b->h'[b]?=if b<hx.length then hx[b]? else none)
  (hold_:∀ (b:Nat),b<h.length->¬ (∃ Y,hr[b]?=some (some Y)/\isView Y=false)->h'[b]?=h[b]?) :
  HM D C (fun b=>if b<h.length then ρ b else ρ' b) (fun b k=>(((∃ Y,hr[b]?=some (some Y)/\isView Y=false)∨h.length≤b)/\ft' b k)∨(¬ ((∃ Y,hr[b]?=some (some Y)/\isView Y=false)∨h.length≤b)/\ft b k)) h' w':=by
 have hhx:h'.length≤hx.length∨h'.length=h.length:=by
  rw[hlen];split
  ·exact Or.inl (Nat.le_refl _)
  ·exact Or.inr rfl
 have hge:h.length≤h'.length:=by
  rw[hlen];split
  ·rename_i hlt;have:=hal hlt;omega
  ·exact Nat.le_refl _
 let T:Nat->Prop:=fun b=>∃ Y,hr[b]?=some (some Y)/\isView Y=false
 have hTlt:∀ b,T b->b<hr.length:=fun b ⟨Y,hY,_⟩=>(List.getElem?_eq_some_iff.1 hY).1
 have hρ2:∀ j,j<hx.length->(if j<h.length then ρ j else ρ' j)=ρ' j:=fun j hj=>by
  split
  ·rename_i hlt;rcases Nat.lt_or_ge j hr.length with h1|h1
   ·exact(hρ j h1).symm
   ·have:=hal (by omega);omega
  ·rfl
 refine hm.step T ?_ (fun i hi=>by simp[hi]) hge ?_ ?_ ?_ ?_
 ·-- what may have been written
  refine⟨hm'.kept.os,hm'.kept.tape,hm'.kept.output,hm'.kept.size,fun k hk hn=>hm'.kept.block k hk fun⟨b,⟨X,hX⟩,hb⟩=>hn ⟨b,⟨X,hX,?_⟩,hb⟩⟩
  cases hX2:isView X with
  |false=>rfl
  |true =>
   have:=(hm.at_ b X (hsub b X hX)).1;rcases X with⟨t,cs⟩|⟨t,r⟩|r|x<;>simp[isView] at hX2
   exact absurd hb (this.1 k)
 ·intro i B hi hB;have hTn:T i∨h.length≤i:=by
   rcases Nat.lt_or_ge i h.length with hlt|hge'
   ·exact Or.inl (hi hlt)
   ·exact Or.inr hge'
  rw[hnew i hTn] at hB;split at hB
  ·rename_i hlt;obtain⟨g1,g2⟩:=hm'.at_ i B hB;have hnv:isView B=false:=by
    rcases(hv i B hB).2 with h1|⟨Y,hY,hYv⟩
    ·exact h1
    ·rcases hTn with⟨Y',hY',hYv'⟩|hge'
     ·rw[hY] at hY';injection hY' with e;injection e with e;subst e;rw[hYv] at hYv';cases hYv'
     ·have:=(List.getElem?_eq_some_iff.1 hY).1;omega
   refine⟨?_,inside_mono ?_ g2⟩
   ·have e:(fun k=>((T i∨h.length≤i)/\ft' i k)∨(¬ (T i∨h.length≤i)/\ft i k))=ft' i:=funext fun k=>propext ⟨fun h=>h.elim (fun h=>h.2) (fun h=>absurd hTn h.1),fun h=>Or.inl ⟨hTn,h⟩⟩
    show hold D C _ i (fun k=>((T i∨h.length≤i)/\ft' i k)∨(¬ (T i∨h.length≤i)/\ft i k)) w' B
    rw[e];exact hold_ctx hnv (hold_env g1 hρ2 hlt g2)
   ·rw[hlen];split
    ·exact Nat.le_refl _
    ·have:hx.length=hr.length:=by omega
     omega
  ·cases hB
 ·intro i hi hn;refine⟨hold_ i hi hn,fun k=>?_⟩
  have:¬ (T i∨h.length≤i):=fun hh=>hh.elim hn (fun h=>by omega)
  exact⟨fun h=>h.elim (fun h=>absurd h.1 this) (fun h=>h.2),fun h=>Or.inr ⟨this,h⟩⟩
 ·intro i k hi hk;have hTn:T i∨h.length≤i:=by
   rcases Nat.lt_or_ge i h.length with hlt|hge'
   ·exact Or.inl (hi hlt)
   ·exact Or.inr hge'
  have hk':ft' i k:=hk.elim (fun h=>h.2) (fun h=>absurd hTn h.1)
  refine⟨?_,hm'.lt i k hk',?_⟩
  ·rcases hm'.fresh i k hk' with⟨b,⟨X,hX⟩,hb⟩|hge'
   ·refine Or.inl ⟨b,⟨X,hX,?_⟩,hb⟩;cases hX2:isView X with
    |false=>rfl
    |true =>
     have:=(hm.at_ b X (hsub b X hX)).1;rcases X with⟨t,cs⟩|⟨t,r⟩|r|x<;>simp[isView] at hX2
     exact absurd hb (this.1 k)
   ·exact Or.inr hge'
  ·obtain⟨B,hB⟩:=hm'.some_ i k hk';refine⟨B,?_⟩;rw[hnew i hTn,if_pos (List.getElem?_eq_some_iff.1 hB).1];exact hB
 ·intro i j k hi hj hki hkj;have hTi:T i∨h.length≤i:=by
   rcases Nat.lt_or_ge i h.length with hlt|hge'
   ·exact Or.inl (hi hlt)
   ·exact Or.inr hge'
  have hTj:T j∨h.length≤j:=by
   rcases Nat.lt_or_ge j h.length with hlt|hge'
   ·exact Or.inl (hj hlt)
   ·exact Or.inr hge'
  exact hm'.apart i j k (hki.elim (fun h=>h.2) (fun h=>absurd hTi h.1)) (hkj.elim (fun h=>h.2) (fun h=>absurd hTj h.1))
end
end Rx
namespace Rx
open Go.RowKit State
section
variable {R:Type} {D:Res R} {P:Program} {T:Tab R} {σ:SS R} {x:Out R}
def StillO (σ:SS R) (x:Out R):Prop:=x.wr=[]->x.hp=σ.hp
theorem still_quiet (vc:Prop) (v:Value) (lit:Option Bool) (rd:List (Nat×Nat)):StillO σ (quietOut σ vc v lit rd):=fun _=>rfl
theorem opPure_still {o:Oper} (h:opPure P σ o=some x):StillO σ x:=by
 unfold opPure at h
 repeat' split at h
 all_goals first
  |(injection h with h;subst h;exact still_quiet _ _ _ _)
  |cases h
theorem opMove_still {y:Operand} (h:opMove σ y=some x):StillO σ x:=by
 unfold opMove at h
 repeat' split at h
 all_goals first
  |(injection h with h;subst h;exact still_quiet _ _ _ _)
  |cases h
theorem opNilSlice_still {t:TypeId} (h:opNilSlice P σ t=some x):StillO σ x:=by
 unfold opNilSlice at h
 repeat' split at h
 all_goals first
  |(injection h with h;subst h;intro hw;cases hw)
  |cases h
theorem opAssign_still {t:TypeId} {y:Operand} (h:opAssign P σ t y=some x):StillO σ x:=by
 unfold opAssign at h;split at h
 ·split at h
  ·rename_i hx;injection h with h;subst h;exact opNilSlice_still hx
  ·exact opMove_still h
 ·exact opMove_still h
theorem opPick_still {c y z:Operand} (h:opPick σ c y z=some x):StillO σ x:=by
 unfold opPick at h;split at h
 ·exact opMove_still h
 ·exact opMove_still h
 ·split at h
  ·injection h with h;subst h;exact still_quiet _ _ _ _
  ·cases h
theorem newCells_still {t:TypeId} {cs:List Value} (h:newCells σ t cs=some x):StillO σ x:=by
 unfold newCells at h;injection h with h;subst h;intro hw;cases hw
theorem opAlloc_still {t:TypeId} (h:opAlloc P σ t=some x):StillO σ x:=by
 unfold opAlloc at h
 repeat' split at h
 all_goals first
  |exact newCells_still h
  |cases h
theorem opBox_still {t:TypeId} {y:Operand} (h:opBox σ t y=some x):StillO σ x:=by
 unfold opBox at h
 repeat' split at h
 all_goals first
  |exact newCells_still h
  |cases h
theorem opBuild_still {t:TypeId} {ps:List (Nat×Operand)} (h:opBuild P σ t ps=some x):StillO σ x:=by
 unfold opBuild at h
 repeat' split at h
 all_goals first
  |(injection h with h;subst h;exact still_quiet _ _ _ _)
  |cases h
theorem opBuildSlice_still {t:TypeId} {n:Nat} {ps:List (Nat×Operand)} (h:opBuildSlice P σ t n ps=some x):StillO σ x:=by
 unfold opBuildSlice at h
 repeat' split at h
 all_goals first
  |(injection h with h;subst h;intro hw;cases hw)
  |cases h
theorem opLoad_still {t:TypeId} {y:Operand} (h:opLoad P σ t y=some x):StillO σ x:=by
 unfold opLoad at h
 repeat' split at h
 all_goals first
  |(injection h with h;subst h;exact still_quiet _ _ _ _)
  |cases h
theorem locs_ne {i e n:Nat} (h:locs i e n=[]):n=0:=by
 cases n with
 |zero=>rfl
 |succ n=>simp[locs] at h
theorem set_same {α:Type} {l:List α} {i:Nat} {a:α} (h:l[i]?=some a):l.set i a=l:=by
 have hl:i<l.length:=(List.getElem?_eq_some_iff.1 h).1;apply List.ext_getElem?;intro u
 by_cases he:i=u
 ·subst he;rw[List.getElem?_set_self hl,h]
 ·rw[List.getElem?_set_ne he]
theorem opStore_still {t:TypeId} {y z:Operand} (h:opStore P σ t y z=some x):StillO σ x:=by
 unfold opStore at h;split at h
 ·rename_i i e v _ _;split at h
  ·rename_i ty cs inf hi _;split at h
   ·rename_i hc;simp only[Bool.and_eq_true] at hc;injection h with h
    subst h;intro hw;have h0:=locs_ne hw;have h1:=Nat.eq_of_beq_eq_true hc.1.1;rw[h0] at h1;have h2:v.cells.toList=[]:=List.eq_nil_of_length_eq_zero h1;simp only[h2];exact set_same (by rw[hi];rfl)
   ·cases h
  ·cases h
 ·rename_i i e q v _ _;split at h
  ·rename_i ty r inf hi _;split at h
   ·rename_i hc;simp only[Bool.and_eq_true,Nat.blt_eq] at hc;split at h
    ·injection h with h
     subst h;intro hw;have h0:=locs_ne hw;omega
    ·cases h
   ·cases h
  ·cases h
 ·cases h
theorem opNil_still {y:Operand} (h:opNil σ y=some x):StillO σ x:=by
 unfold opNil at h
 repeat' split at h
 all_goals first
  |(injection h with h;subst h;exact still_quiet _ _ _ _)
  |cases h
theorem opEqNil_still {neg:Bool} {t:TypeId} {y z:Operand} (h:opEqNil P σ neg t y z=some x):StillO σ x:=by
 unfold opEqNil at h
 repeat' split at h
 all_goals first
  |(injection h with h;subst h;exact still_quiet _ _ _ _)
  |cases h
theorem opEqAgg_still {neg:Bool} {t:TypeId} {y z:Operand} (h:opEqAgg P σ neg t y z=some x):StillO σ x:=by
 unfold opEqAgg at h;split at h
 ·split at h
  ·split at h
   ·split at h
    ·injection h with h;subst h;exact still_quiet _ _ _ _
    ·cases h
   ·cases h
  ·cases h
 ·cases h
theorem opInt_still {op:BinOp} {y z:Operand} (h:opInt σ op y z=some x):StillO σ x:=by
 unfold opInt at h
 repeat' split at h
 all_goals first
  |(injection h with h;subst h;exact still_quiet _ _ _ _)
  |cases h
theorem opCat_still {y z:Operand} (h:opCat σ y z=some x):StillO σ x:=by
 unfold opCat at h
 repeat' split at h
 all_goals first
  |(injection h with h;subst h;exact still_quiet _ _ _ _)
  |cases h
theorem opEqPtr_still {own:Option (Option (SB R))->Bool} {neg:Bool} {t:TypeId} {y z:Operand} (h:opEqPtr P σ own neg t y z=some x):StillO σ x:=by
 unfold opEqPtr at h
 repeat' split at h
 all_goals first
  |(injection h with h;subst h;exact still_quiet _ _ _ _)
  |cases h
theorem opBuildCells_still {t:TypeId} {n:Nat} {ps:List (Nat×Operand)} (h:opBuildCells P σ t n ps=some x):StillO σ x:=by
 unfold opBuildCells at h
 repeat' split at h
 all_goals first
  |(injection h with h;subst h;intro hw;cases hw)
  |cases h
theorem opIndexCells_still {t:TypeId} {y z:Operand} (h:opIndexCells P σ t y z=some x):StillO σ x:=by
 unfold opIndexCells at h
 repeat' split at h
 all_goals first
  |(injection h with h;subst h;exact still_quiet _ _ _ _)
  |cases h
theorem opBin_still {o:Oper} {op:BinOp} {t:TypeId} {y z:Operand} (h:opBin P T σ o op t y z=some x):StillO σ x:=by
 unfold opBin at h;split at h
 ·split at h
  ·exact opPure_still h
  ·exact opInt_still h
 ·split at h
  ·exact opCat_still h
  ·cases h
 ·split at h
  ·exact opEqNil_still h
  ·exact opEqNil_still h
  ·cases h
 ·split at h
  ·exact opEqAgg_still h
  ·exact opEqAgg_still h
  ·cases h
 ·split at h
  ·exact opEqPtr_still h
  ·exact opEqPtr_still h
  ·cases h
 ·exact opPure_still h
theorem opNot_still {y:Operand} (h:opNot σ y=some x):StillO σ x:=by
 unfold opNot at h
 repeat' split at h
 all_goals first
  |(injection h with h;subst h;exact still_quiet _ _ _ _)
  |cases h
theorem opSlice_still {t:TypeId} {y:Operand} {lo hi mx:Option Operand} (h:opSlice P σ t y lo hi mx=some x):StillO σ x:=by
 unfold opSlice at h
 repeat' split at h
 all_goals first
  |(injection h with h;subst h;exact still_quiet _ _ _ _)
  |(injection h with h;subst h;intro hw;cases hw)
  |cases h
theorem opFieldAddr_still {t:TypeId} {y:Operand} {k:Nat} (h:opFieldAddr P σ t y k=some x):StillO σ x:=by
 unfold opFieldAddr at h
 repeat' split at h
 all_goals first
  |(injection h with h;subst h;exact still_quiet _ _ _ _)
  |cases h
theorem opField_still {t:TypeId} {y:Operand} {k:Nat} (h:opField P σ t y k=some x):StillO σ x:=by
 unfold opField at h
 repeat' split at h
 all_goals first
  |(injection h with h;subst h;exact still_quiet _ _ _ _)
  |cases h
theorem opIndexAddr_still {t:TypeId} {y z:Operand} (h:opIndexAddr P σ t y z=some x):StillO σ x:=by
 unfold opIndexAddr at h
 repeat' split at h
 all_goals first
  |(injection h with h;subst h;exact still_quiet _ _ _ _)
  |cases h
theorem opIndexArr_still {t:TypeId} {y z:Operand} (h:opIndexArr P σ t y z=some x):StillO σ x:=by
 unfold opIndexArr at h
 repeat' split at h
 all_goals first
  |(injection h with h;subst h;exact still_quiet _ _ _ _)
  |cases h
theorem opIndexStr_still {t:TypeId} {y z:Operand} (h:opIndexStr P σ t y z=some x):StillO σ x:=by
 unfold opIndexStr at h
 repeat' split at h
 all_goals first
  |(injection h with h;subst h;exact still_quiet _ _ _ _)
  |cases h
theorem opExtract_still {y:Operand} {k:Nat} (h:opExtract σ y k=some x):StillO σ x:=by
 unfold opExtract at h
 repeat' split at h
 all_goals first
  |(injection h with h;subst h;exact still_quiet _ _ _ _)
  |cases h
theorem opMakeSlice_still {t:TypeId} {y z:Operand} (h:opMakeSlice P σ t y z=some x):StillO σ x:=by
 unfold opMakeSlice at h
 repeat' split at h
 all_goals first
  |(injection h with h;subst h;intro hw;cases hw)
  |cases h
theorem opLen_still {t:TypeId} {y:Operand} (h:opLen P σ t y=some x):StillO σ x:=by
 unfold opLen at h
 repeat' split at h
 all_goals first
  |(injection h with h;subst h;exact still_quiet _ _ _ _)
  |cases h
theorem opAppend_still {t t2:TypeId} {y z:Operand} (h:opAppend P σ t t2 y z=some x):StillO σ x:=by
 unfold opAppend at h;split at h
 ·split at h
  ·split at h
   ·injection h with h;subst h;intro hw;cases hw
   ·cases h
  ·split at h
   ·split at h
    ·injection h with h;subst h;intro hw;cases hw
    ·cases h
   ·cases h
  ·cases h
 ·cases h
theorem opCall_still (hT:TabOk D P T) {f:Operand} {args:List Operand} {b:Bool} (h:opCall T σ f args b=some x):StillO σ x:=by
 unfold opCall at h;split at h
 ·split at h
  ·rename_i p hp;exact((findF_ok hT hp).ok b).still _ _ _ h
  ·cases h
 ·cases h
theorem opInvoke_still (hT:TabOk D P T) {r:Operand} {name:String} {args:List Operand} {b:Bool} (h:opInvoke P T σ r name args b=some x):StillO σ x:=by
 unfold opInvoke at h;split at h
 ·split at h
  ·split at h
   ·rename_i p _ hp;exact((findF_ok hT hp).ok b).still _ _ _ h
   ·cases h
  ·cases h
 ·cases h
theorem opCall_keep (hT:TabOk D P T) {f:Operand} {args:List Operand} {b:Bool} (h:opCall T σ f args b=some x):∀ i,i<σ.hp.length->keepB x.wr i=true->x.hp[i]?=σ.hp[i]?:=by
 unfold opCall at h;split at h
 ·split at h
  ·rename_i p hp;exact(findF_ok hT hp).keep b _ _ _ h
  ·cases h
 ·cases h
theorem opInvoke_keep (hT:TabOk D P T) {r:Operand} {name:String} {args:List Operand} {b:Bool} (h:opInvoke P T σ r name args b=some x):∀ i,i<σ.hp.length->keepB x.wr i=true->x.hp[i]?=σ.hp[i]?:=by
 unfold opInvoke at h;split at h
 ·split at h
  ·split at h
   ·rename_i p _ hp;exact(findF_ok hT hp).keep b _ _ _ h
   ·cases h
  ·cases h
 ·cases h
theorem opMakeFunc_still {fn:Fn} {fi ca:List Operand} (h:opMakeFunc σ fn fi ca=some x):StillO σ x:=by
 unfold opMakeFunc at h;split at h
 ·injection h with h;subst h;exact still_quiet _ _ _ _
 ·cases h
theorem opLoadT_still {t:TypeId} {y:Operand} (h:opLoadT P T σ t y=some x):StillO σ x:=by
 unfold opLoadT at h;split at h
 ·rename_i hx;injection h with h;subst h;exact opLoad_still hx
 ·repeat' split at h
  all_goals first
   |(injection h with h;subst h;exact still_quiet _ _ _ _)
   |cases h
theorem sop_still (hT:TabOk D P T) {o:Oper} {b:Bool} (h:sop P T σ o b=some x):StillO σ x:=by
 obtain⟨dst,op,ty,pos,after,guard⟩:=o;unfold sop at h;simp only at h;split at h
 ·exact opAssign_still h
 ·exact opAssign_still h
 ·exact opPick_still h
 ·exact opAlloc_still h
 ·exact opBox_still h
 ·exact opBuild_still h
 ·split at h
  ·rename_i hx;injection h with h;subst h;exact opBuildSlice_still hx
  ·exact opBuildCells_still h
 ·exact opLoadT_still h
 ·split at h
  ·exact opStore_still h
  ·cases h
 ·exact opNil_still h
 ·exact opBin_still h
 ·split at h
  ·exact opNot_still h
  ·exact opPure_still h
 ·exact opSlice_still h
 ·exact opFieldAddr_still h
 ·exact opField_still h
 ·split at h
  ·exact opIndexArr_still h
  ·split at h
   ·exact opIndexCells_still h
   ·exact opIndexAddr_still h
 ·split at h
  ·exact opIndexStr_still h
  ·exact opPure_still h
 ·exact opExtract_still h
 ·exact opMakeSlice_still h
 ·rename_i callee args ts;split at h
  ·exact opCall_still hT h
  ·split at h
   ·exact opAppend_still h
   ·split at h
    ·exact opLen_still h
    ·exact opPure_still h
   ·exact opPure_still h
  ·exact opInvoke_still hT h
 ·exact opMakeFunc_still h
 ·exact opPure_still h
def isCall (o:Oper):Bool :=
 match o with
 |⟨_,.call ⟨.value _,_,_⟩,_,_,_,_⟩=>true
 |⟨_,.call ⟨.invoke _ _,_,_⟩,_,_,_,_⟩=>true
 |_=>false
def isAppend (o:Oper):Bool :=
 match o with
 |⟨_,.call ⟨.builtin .append,⟨[_,_]⟩,⟨[_,_]⟩⟩,_,_,_,_⟩=>true
 |_=>false
theorem opAppend_keep {t t2:TypeId} {y z:Operand} (h:opAppend P σ t t2 y z=some x):∀ i,i<σ.hp.length->memF x.wr i=false->x.hp[i]?=σ.hp[i]?:=by
 unfold opAppend at h;split at h
 ·split at h
  ·split at h
   ·injection h with h;subst h;intro i hi _;exact List.getElem?_append_left hi
   ·cases h
  ·split at h
   ·split at h
    ·injection h with h
     subst h;intro j hj hm;simp only[memF,Bool.or_eq_false_iff] at hm;simp only;rw[List.getElem?_append_left (by simpa using hj),List.getElem?_set_ne]
     intro e;rw[e] at hm;simp at hm
    ·cases h
   ·cases h
  ·cases h
 ·cases h
def keepO (o:Oper) (wr:List (Nat×Nat)) (b:Nat):Bool:=(isCall o&&keepB wr b)||(isAppend o && !memF wr b)
theorem sop_keep (hT:TabOk D P T) {o:Oper} {b:Bool} (h:sop P T σ o b=some x):∀ i,i<σ.hp.length->keepO o x.wr i=true->x.hp[i]?=σ.hp[i]?:=by
 intro i hi hk;simp only[keepO,Bool.or_eq_true,Bool.and_eq_true] at hk;rcases hk with⟨hc,hk⟩|⟨hc,hk⟩
 ·unfold isCall at hc;split at hc
  ·exact opCall_keep hT h i hi hk
  ·exact opInvoke_keep hT h i hi hk
  ·cases hc
 ·unfold isAppend at hc;split at hc
  ·exact opAppend_keep h i hi (by simpa using hk)
  ·cases hc
end
end Rx
end Go.Proofs.YtpjdphiopolanaaGreat
