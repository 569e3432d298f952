/- arena: what a pool holds, as plain lists; where it lies. -/
import Derived.Test.YtloibbakklenbaaRxRes
import Derived.Test.YtloibbakklenbaaProg
import Derived.KernelRfl
namespace Go.Proofs.Ytloibbakklenbaa.Ar
open Go.Proofs.Ytloibbakklenbaa.Rx
set_option linter.unusedVariables false
def NoR : Res Empty := ⟨fun _ _ _ _ => False, fun _ _ _ _ _ h _ => h, fun _ _ _ _ _ h _ => h.elim⟩
def codeOf (f : Func) : Code := f.body.getD .skip
theorem as_text {p q : Prop} (h : q) (e : p = q) : p := by rw [e]; exact h
/-- a pool of ints: the cells' values, Gens, whether held; the free ones, the next one last -/
structure PM where
  vs : List Int
  gens : List Int
  live : List Bool
  free : List Int
  held : Int
  cap : Int
  visits : Int
/-- the document's own pool -/
structure QM where
  vs : List Int
  gens : List Int
  live : List Bool
  free : List Int
  cap : Int
  visits : Int
/-- a pool of items -/
structure IM where
  ks : List Int
  ids : List Int
  gens : List Int
  live : List Bool
  free : List Int
  held : Int
  cap : Int
  visits : Int
inductive Rs
  | pool (m : PM)
  | ref (m : QM)
  | items (m : IM)
  | bools (cap : Int)
def layPool (m : PM) : Hp Empty :=
  [some (.inl (62, [.slice (some ⟨1, 0, some 3000⟩) m.vs.length 0, .slice (some ⟨2, 0, some 1000⟩) m.free.length 0, .int .i64 m.held, .int .i64 m.cap, .int .i64 m.visits])),
   some (.inr (.inl (65, ⟨[.int .i64 0, .int .i64 0, .bool false], m.vs.length, [colI m.vs, colI m.gens, colB m.live]⟩))),
   some (.inr (.inl (3, ⟨[.int .i64 0], m.free.length, [colI m.free]⟩)))]
def layRef (m : QM) : Hp Empty :=
  [some (.inl (44, [.slice (some ⟨1, 0, some 1000⟩) m.vs.length 0, .slice (some ⟨2, 0, some 1000⟩) m.gens.length 0, .slice (some ⟨3, 0, some 1000⟩) m.live.length 0, .slice (some ⟨4, 0, some 1000⟩) m.free.length 0, .int .i64 m.cap, .int .i64 m.visits])),
   some (.inr (.inl (3, ⟨[.int .i64 0], m.vs.length, [colI m.vs]⟩))),
   some (.inr (.inl (3, ⟨[.int .i64 0], m.gens.length, [colI m.gens]⟩))),
   some (.inr (.inl (4, ⟨[.bool false], m.live.length, [colB m.live]⟩))),
   some (.inr (.inl (3, ⟨[.int .i64 0], m.free.length, [colI m.free]⟩)))]
def layItems (m : IM) : Hp Empty :=
  [some (.inl (70, [.slice (some ⟨1, 0, some 4000⟩) m.ks.length 0, .slice (some ⟨2, 0, some 1000⟩) m.free.length 0, .int .i64 m.held, .int .i64 m.cap, .int .i64 m.visits])),
   some (.inr (.inl (73, ⟨[.int .i64 0, .int .i64 0, .int .i64 0, .bool false], m.ks.length, [colI m.ks, colI m.ids, colI m.gens, colB m.live]⟩))),
   some (.inr (.inl (3, ⟨[.int .i64 0], m.free.length, [colI m.free]⟩)))]
def layBools (cap : Int) : Hp Empty :=
  [some (.inl (77, [.slice (some ⟨1, 0, some 2000⟩) 0 0, .slice (some ⟨2, 0, some 1000⟩) 0 0, .int .i64 0, .int .i64 cap, .int .i64 0])),
   some (.inr (.inl (99, ⟨[.bool false, .int .i64 0, .bool false], 0, [colB [], colI [], colB []]⟩))),
   some (.inr (.inl (3, ⟨[.int .i64 0], 0, [colI []]⟩)))]
def lay : Rs → Hp Empty
  | .pool m => layPool m
  | .ref m => layRef m
  | .items m => layItems m
  | .bools c => layBools c
def noViews : Hp Empty → Bool
  | [] => true
  | none :: l => noViews l
  | some B :: l => !isView B && noViews l
theorem noViews_get : ∀ {l : Hp Empty} {b : Nat} {X : SB Empty}, noViews l = true → l[b]? = some (some X) → isView X = false
  | [], b, X, _, h => by simp at h
  | none :: l, b, X, hn, h => by
    cases b with
    | zero => simp at h
    | succ b =>
      simp only [List.getElem?_cons_succ] at h
      simp only [noViews] at hn
      exact noViews_get hn h
  | some B :: l, b, X, hn, h => by
    simp only [noViews, Bool.and_eq_true, Bool.not_eq_true'] at hn
    cases b with
    | zero => simp only [List.getElem?_cons_zero, Option.some.injEq] at h; subst h; exact hn.1
    | succ b => simp only [List.getElem?_cons_succ] at h; exact noViews_get hn.2 h
def L : Lay Rs Empty where
  lay := lay
  ne x := by cases x <;> exact Nat.succ_pos _
  own x b X h := by cases x <;> exact noViews_get rfl h
  ins x := by cases x <;> rfl
def D : Res Rs := resOf NoR L
theorem mixed : Try.prog.follows .mixedOrders = true := by kernel_rfl
end Go.Proofs.Ytloibbakklenbaa.Ar
