import PyProof.Rows.All
import HandS.ForMost
import HandS.ForExc
import HandS.Walk
import HandS.Strs
import HandS.Conv
import PyProof.Rows.SetFrom
import HandS.IsInst
import HandS.ExcIs
import HandS.ExcOwn
import KE.SortData
import HandS.SortInts
import HandS.SortKw
import KE.SortKeyHeap
import KE.LtData
import HandS.TupMul
import HandS.Zip
import HandS.Dict
import HandS.More
import KE.KDictWalk
import KE.KDictSum
import HandS.Style
import HandS.TupLe
import HandS.DictComp
import KE.KDictDisplayH
import KE.DataMinMax
import HandS.List
import KE.DataMinKey
import HandS.Deep
import HandS.Codes
import PyProof.Draws
import PyProof.TupleIter
import HandS.FStr
import HandS.SetBool
import HandS.TupSets
import HandS.Star
import HandS.MapObj
import HandS.SetFor
import HandS.SetKeys
import HandS.Iter
import KE.GoesMore
import KE.GoesZip
import KE.GoesEnum
import HandS.WideBits
import KE.IntBitsLaws
import PySem.Challenge.RW_standingpowers_k51_whole_circuits_compar
set_option Elab.async false
set_option linter.all false
set_option maxRecDepth 100000
namespace Dn
open PySem L2

def Le (H H' : Hp) : Prop := ∀ a o, H a = some o → H' a = some o
theorem Le.refl (H : Hp) : Le H H := fun _ _ h => h
theorem Le.trans {A B C : Hp} (h : Le A B) (g : Le B C) : Le A C := fun a o e => g a o (h a o e)
theorem Le.put {H : Hp} {p : Addr} {o : HO} (h : H p = none) : Le H (upd H p o) := fun a u e => by
  rw [upd_ne (ne_of_none e h)]
  exact e
theorem Le.put2 {B H : Hp} {p : Addr} {o : HO} (h : Le B H) : Le (upd B p o) (upd H p o) := fun a u e => by
  by_cases q : a = p
  · subst q
    rw [upd_same] at e ⊢
    exact e
  · rw [upd_ne q] at e ⊢
    exact h a u e
theorem Le.none {B H : Hp} (h : Le B H) {a : Addr} (e : H a = none) : B a = none := by
  cases q : B a with
  | none => rfl
  | some o =>
    rw [h a o q] at e
    cases e
structure Grow (B H B' H' : Hp) : Prop where
  b : Le B B'
  bh : Le B' H'
  h : Le H H'
  f : ∀ a, B a = none → ¬ H a = none → B' a = none
theorem Grow.refl {B H : Hp} (h : Le B H) : Grow B H B H := ⟨Le.refl _, h, Le.refl _, fun _ e _ => e⟩
theorem Grow.trans {B H B1 H1 B2 H2 : Hp} (g : Grow B H B1 H1) (k : Grow B1 H1 B2 H2) : Grow B H B2 H2 :=
  ⟨g.b.trans k.b, k.bh, g.h.trans k.h, fun a e n => k.f a (g.f a e n) fun z => n (g.h.none z)⟩
theorem Grow.new {B H : Hp} {p : Addr} {o : HO} (h : Le B H) (n : H p = none) : Grow B H (upd B p o) (upd H p o) :=
  ⟨Le.put (h.none n), h.put2, Le.put n, fun a e z => by
    rw [upd_ne (fun q => z (by rw [q]; exact n))]
    exact e⟩
theorem Grow.free {B H : Hp} {p : Addr} {o : HO} (h : Le B H) (n : H p = none) : Grow B H B (upd H p o) :=
  ⟨Le.refl _, h.trans (Le.put n), Le.put n, fun _ e _ => e⟩
theorem Grow.none {B H B' H' : Hp} (g : Grow B H B' H') {a : Addr} (h : H' a = Option.none) : H a = Option.none := g.h.none h

class Rep (α : Type) where
  rep : PySem.W.Frag → Hp → V → α → Prop
  mono : ∀ {K : PySem.W.Frag} {B B' : Hp} {v : V} {x : α}, Le B B' → rep K B v x → rep K B' v x
open Rep (rep)
class ORep (β : Type) where
  orep : PySem.W.Frag → Hp → HO → β → Prop
  omono : ∀ {K : PySem.W.Frag} {B B' : Hp} {o : HO} {x : β}, Le B B' → orep K B o x → orep K B' o x
open ORep (orep)

instance : Rep Int := ⟨fun _ _ v x => v = .int x, fun _ h => h⟩
instance : Rep Bool := ⟨fun _ _ v x => v = .bl x, fun _ h => h⟩
instance : Rep Str := ⟨fun _ _ v x => v = .str x, fun _ h => h⟩
instance : Rep Unit := ⟨fun _ _ v _ => v = .non, fun _ h => h⟩
theorem Le.rd {H H' : Hp} {a : Addr} {u : HO} (e : Le H H') (h : Rd H a u) : Rd H' a u := by
  rcases h with h | ⟨o, h⟩
  · exact Or.inl (e a _ h)
  · exact Or.inr ⟨o, e a _ h⟩
theorem Le.l {K : PySem.W.Frag} {H H' : Hp} {a : Addr} {xs : List V} (e : Le H H') (h : SqL K H a xs) : SqL K H' a xs := by
  rcases h with h | h
  · exact Or.inl (e.rd h)
  · exact Or.inr h
theorem Le.t {K : PySem.W.Frag} {H H' : Hp} {a : Addr} {xs : List V} (e : Le H H') (h : SqT K H a xs) : SqT K H' a xs := by
  rcases h with h | h
  · exact Or.inl (e.rd h)
  · exact Or.inr h
section
variable {α β : Type} [Rep α] [Rep β] {K : PySem.W.Frag} {B B' : Hp}
abbrev Reps (K : PySem.W.Frag) (B : Hp) : List V → List α → Prop := Paired (fun v x => rep K B v x)
theorem Reps.mono (e : Le B B') {vs : List V} {xs : List α} (h : Reps K B vs xs) : Reps K B' vs xs := Paired.mapP h fun _ _ q => Rep.mono e q
theorem Reps.get {vs : List V} {xs : List α} (h : Reps K B vs xs) : ∀ {i : Nat} {v : V}, vs[i]? = some v → ∃ x, xs[i]? = some x ∧ rep K B v x := by
  induction h with
  | nil => intro i v e; simp at e
  | cons r _ ih =>
    intro i v e
    cases i with
    | zero =>
      simp at e
      subst e
      exact ⟨_, rfl, r⟩
    | succ i =>
      simp at e
      obtain ⟨x, e1, e2⟩ := ih e
      exact ⟨x, by simpa using e1, e2⟩
theorem Reps.get' {vs : List V} {xs : List α} (h : Reps K B vs xs) : ∀ {i : Nat} {x : α}, xs[i]? = some x → ∃ v, vs[i]? = some v ∧ rep K B v x := by
  induction h with
  | nil => intro i v e; simp at e
  | cons r _ ih =>
    intro i v e
    cases i with
    | zero =>
      simp at e
      subst e
      exact ⟨_, rfl, r⟩
    | succ i =>
      simp at e
      obtain ⟨x, e1, e2⟩ := ih e
      exact ⟨x, by simpa using e1, e2⟩
theorem Reps.len {vs : List V} {xs : List α} (h : Reps K B vs xs) : vs.length = xs.length := Paired.length h
theorem Reps.append {vs ws : List V} {xs ys : List α} (h : Reps K B vs xs) (g : Reps K B ws ys) : Reps K B (vs ++ ws) (xs ++ ys) := by
  induction h with
  | nil => exact g
  | cons r _ ih => exact .cons r ih
theorem Reps.drop {vs : List V} {xs : List α} (h : Reps K B vs xs) : ∀ n : Nat, Reps K B (vs.drop n) (xs.drop n) := by
  induction h with
  | nil => intro n; simp; exact .nil
  | cons r t ih =>
    intro n
    cases n with
    | zero => exact .cons r t
    | succ n => exact ih n
theorem Reps.take {vs : List V} {xs : List α} (h : Reps K B vs xs) : ∀ n : Nat, Reps K B (vs.take n) (xs.take n) := by
  induction h with
  | nil => intro n; simp; exact .nil
  | cons r t ih =>
    intro n
    cases n with
    | zero => exact .nil
    | succ n => exact .cons r (ih n)
theorem Reps.set {vs : List V} {xs : List α} (h : Reps K B vs xs) : ∀ (n : Nat) {v : V} {x : α}, rep K B v x → Reps K B (vs.set n v) (xs.set n x) := by
  induction h with
  | nil => intro n v x r; exact .nil
  | cons r t ih =>
    intro n v x q
    cases n with
    | zero => exact .cons q t
    | succ n => exact .cons r (ih n q)
theorem Reps.reverse {vs : List V} {xs : List α} (h : Reps K B vs xs) : Reps K B vs.reverse xs.reverse := by
  induction h with
  | nil => exact .nil
  | cons r t ih =>
    rw [List.reverse_cons, List.reverse_cons]
    exact ih.append (.cons r .nil)
theorem Reps.replicate {v : V} {x : α} (r : rep K B v x) : ∀ n : Nat, Reps K B (List.replicate n v) (List.replicate n x)
  | 0 => .nil
  | n + 1 => .cons r (Reps.replicate r n)
end
structure Tup (α : Type) where
  l : List α
  deriving DecidableEq
section
variable {α β γ : Type} [Rep α] [Rep β] [Rep γ]
instance : ORep (List α) := ⟨fun K B o xs => ∃ vs, o = .lst vs ∧ Reps K B vs xs, fun e ⟨vs, h, r⟩ => ⟨vs, h, r.mono e⟩⟩
instance : Rep (List α) := ⟨fun K B v xs => ∃ a vs, v = .ref a ∧ SqL K B a vs ∧ Reps K B vs xs, fun e ⟨a, vs, h, s, r⟩ => ⟨a, vs, h, e.l s, r.mono e⟩⟩
instance : Rep (Tup α) := ⟨fun K B v xs => ∃ a vs, v = .ref a ∧ SqT K B a vs ∧ Reps K B vs xs.l, fun e ⟨a, vs, h, s, r⟩ => ⟨a, vs, h, e.t s, r.mono e⟩⟩
instance : Rep (α × β) := ⟨fun K B v x => ∃ a v1 v2, v = .ref a ∧ SqT K B a [v1, v2] ∧ rep K B v1 x.1 ∧ rep K B v2 x.2, fun e ⟨a, v1, v2, h, s, r, q⟩ => ⟨a, v1, v2, h, e.t s, Rep.mono e r, Rep.mono e q⟩⟩
instance : Rep (Option α) := ⟨fun K B v x => match x with | none => v = .non | some y => rep K B v y, fun {K B B' v x} e h => by
  cases x with
  | none => exact h
  | some y => exact Rep.mono (α := α) e h⟩
end

inductive Slot : Type 1 where
  | any
  | val {α : Type} [Rep α] (x : α)
  | obj (φ : PySem.W.Frag → Hp → Addr → HO → Prop) (hm : ∀ K B B' a o, Le B B' → φ K B a o → φ K B' a o)
  /-- an owned object at a that refers to further owned ones: all of them stand at cs -/
  | deep (ψ : PySem.W.Frag → Hp → Hp → Addr → List Addr → Prop) (hm : ∀ K B B' H H' a cs, Le B B' → (∀ c ∈ cs, H' c = H c) → ψ K B H a cs → ψ K B' H' a cs)
abbrev Slot.own {β : Type} [ORep β] (x : β) : Slot := .obj (fun K B _ o => orep K B o x) (fun _ _ _ _ _ e h => ORep.omono e h)
def SlotOk (K : PySem.W.Frag) (B H : Hp) (v : Option (Option V)) : Slot → Prop
  | .any => True
  | @Slot.val α i x => ∃ u, v = some (some u) ∧ rep K B u x
  | .obj φ _ => ∃ a o, v = some (some (.ref a)) ∧ H a = some o ∧ B a = none ∧ φ K B a o
  | .deep _ _ => True
def isOwn : Slot → Bool
  | .obj _ _ => true
  | _ => false
def isDeep : Slot → Bool
  | .deep _ _ => true
  | _ => false
structure Env (K : PySem.W.Frag) (B H : Hp) (σ : St) (env : List Slot) : Prop where
  bh : Le B H
  len : σ.length = env.length
  at_ : ∀ (i : Nat) (s : Slot), env[i]? = some s → SlotOk K B H σ[i]? s
  ap : ∀ (i j : Nat) (s t : Slot), env[i]? = some s → env[j]? = some t → isOwn s = true → isOwn t = true → σ[i]? = σ[j]? → i = j
theorem SlotOk.grow {K : PySem.W.Frag} {B H B' H' : Hp} {v : Option (Option V)} {s : Slot} (g : Grow B H B' H') (h : SlotOk K B H v s) : SlotOk K B' H' v s := by
  cases s with
  | any => trivial
  | @val α i x =>
    obtain ⟨u, e, r⟩ := h
    exact ⟨u, e, Rep.mono g.b r⟩
  | obj φ hm =>
    obtain ⟨a, o, e, h1, h2, r⟩ := h
    exact ⟨a, o, e, g.h a o h1, g.f a h2 (by rw [h1]; exact fun z => nomatch z), hm _ _ _ _ _ g.b r⟩
  | deep ψ hm => trivial
theorem Env.grow {K : PySem.W.Frag} {B H B' H' : Hp} {σ : St} {env : List Slot} (E : Env K B H σ env) (g : Grow B H B' H') : Env K B' H' σ env :=
  ⟨g.bh, E.len, fun i s h => (E.at_ i s h).grow g, E.ap⟩
theorem Env.val {K : PySem.W.Frag} {B H : Hp} {σ : St} {env : List Slot} (E : Env K B H σ env) {i : Nat} {α : Type} [Rep α] {x : α} (h : env[i]? = some (.val x)) : ∃ u, σ[i]? = some (some u) ∧ rep K B u x := E.at_ i _ h
theorem Env.obj {K : PySem.W.Frag} {B H : Hp} {σ : St} {env : List Slot} (E : Env K B H σ env) {i : Nat} {φ : PySem.W.Frag → Hp → Addr → HO → Prop} {hm : ∀ K B B' a o, Le B B' → φ K B a o → φ K B' a o} (h : env[i]? = some (.obj φ hm)) :
    ∃ a o, σ[i]? = some (some (.ref a)) ∧ H a = some o ∧ B a = none ∧ φ K B a o := E.at_ i _ h
theorem Env.own {K : PySem.W.Frag} {B H : Hp} {σ : St} {env : List Slot} (E : Env K B H σ env) {i : Nat} {β : Type} [ORep β] {x : β} (h : env[i]? = some (.own x)) :
    ∃ a o, σ[i]? = some (some (.ref a)) ∧ H a = some o ∧ B a = none ∧ orep K B o x := E.at_ i _ h

structure Ct where
  P : Program
  w : World
  K : PySem.W.Frag
  mg : Str → Option Value
  base : Heap
  k : Nat
  N : List Str
  sc : Scope
  fn : Str → Bool
  df : Bool
structure Fits (c : Ct) (X : Cx) : Prop where
  P : X.prog = c.P
  w : X.w = c.w
  K : X.K = c.K
  mg : X.mg = c.mg
  base : X.base = c.base
  N : X.N = c.N
  sc : X.env.scope = c.sc
  fn : X.fn = c.fn
  calm : X.calm = true
  room : Room c.k X.A
  xe : X.xe = fun _ _ => False
  top : c.df = true → X.stack = X.env :: X.outer ∧ X.env.frame = some X.env.locals ∧ X.ex = []
def Ct.blk (c : Ct) (scope : Scope) : Ct := { c with sc := relS scope c.sc, fn := fun x => scope.names.lookup x == some .cell, df := false }
theorem Fits.blk {c : Ct} {X : Cx} (F : Fits c X) (s : Shared) (H : Hp) (scope : Scope) (C : Addr) (cl : List (Str × Addr)) (fp : List Addr) : Fits (c.blk scope) (X.blk s H scope (compEnvC scope cl C X.env) fp) :=
  ⟨F.P, F.w, F.K, F.mg, F.base, F.N, by show relS scope X.env.scope = relS scope c.sc; rw [F.sc], rfl, F.calm, F.room, rfl, fun h => nomatch h⟩

def EvE (K : PySem.W.Frag) (env : List Slot) {α : Type} [Rep α] (t : TE) (x : α) : Prop :=
  ∀ (B H : Hp) (σ : St), Env K B H σ env → ∀ Q : VK, (∀ v B' H', Grow B H B' H' → rep K B' v x → Q v H') → t σ H Q
def De (c : Ct) (env : List Slot) (e : Expr) {α : Type} [Rep α] (m : Option α) : Prop := ∃ t, (∀ X, Fits c X → PE X e t) ∧ ∀ x, m = some x → EvE c.K env t x
def EvN (K : PySem.W.Frag) (env : List Slot) {β : Type} [ORep β] (t : TE) (x : β) : Prop :=
  ∀ (B H : Hp) (σ : St), Env K B H σ env → ∀ Q : VK, (∀ p o B' H', H p = none → Grow B H B' H' → B' p = none → H' p = some o → orep K B' o x → Q (.ref p) H') → t σ H Q
def DeN (c : Ct) (env : List Slot) (e : Expr) {β : Type} [ORep β] (m : Option β) : Prop := ∃ t, (∀ X, Fits c X → PE X e t) ∧ ∀ x, m = some x → EvN c.K env t x
def EvT (K : PySem.W.Frag) (env : List Slot) (t : TT) (b : Bool) : Prop :=
  ∀ (B H : Hp) (σ : St), Env K B H σ env → ∀ Q : Bool → Hp → Prop, (∀ B' H', Grow B H B' H' → Q b H') → t σ H Q
def DeT (c : Ct) (env : List Slot) (e : Expr) (m : Option Bool) : Prop := ∃ t, (∀ X, Fits c X → PT X e t) ∧ ∀ b, m = some b → EvT c.K env t b
def DeW (c : Ct) (env : List Slot) (e : Expr) (m : Option Bool) : Prop := ∃ t, (∀ X, Fits c X → PW X e t) ∧ ∀ b, m = some b → EvT c.K env t b
inductive Args (K : PySem.W.Frag) (B : Hp) : List V → List Slot → Prop where
  | nil : Args K B [] []
  | cons {α : Type} [Rep α] {v : V} {x : α} {vs : List V} {xs : List Slot} : rep K B v x → Args K B vs xs → Args K B (v :: vs) (.val x :: xs)
theorem Args.mono {K : PySem.W.Frag} {B B' : Hp} (e : Le B B') {vs : List V} {xs : List Slot} (h : Args K B vs xs) : Args K B' vs xs := by
  induction h with
  | nil => exact .nil
  | cons r _ ih => exact .cons (Rep.mono e r) ih
theorem Args.len {K : PySem.W.Frag} {B : Hp} {vs : List V} {xs : List Slot} (h : Args K B vs xs) : vs.length = xs.length := by
  induction h with
  | nil => rfl
  | cons r _ ih => rw [List.length_cons, List.length_cons, ih]
theorem Args.get {K : PySem.W.Frag} {B : Hp} {vs : List V} {xs : List Slot} (h : Args K B vs xs) : ∀ {i : Nat} {s : Slot}, xs[i]? = some s → SlotOk K B B (vs.map some)[i]? s ∧ isOwn s = false := by
  induction h with
  | nil => intro i s e; simp at e
  | cons r _ ih =>
    intro i s e
    cases i with
    | zero =>
      simp at e
      subst e
      exact ⟨⟨_, rfl, r⟩, rfl⟩
    | succ i =>
      simp at e
      simpa using ih e
def EvA (K : PySem.W.Frag) (env : List Slot) (t : TA) (xs : List Slot) : Prop :=
  ∀ (B H : Hp) (σ : St), Env K B H σ env → ∀ Q : List V → Hp → Prop, (∀ vs B' H', Grow B H B' H' → Args K B' vs xs → Q vs H') → t σ H Q
def EvL (K : PySem.W.Frag) (env : List Slot) {α : Type} [Rep α] (t : TE) (xs : List α) : Prop :=
  ∀ (B H : Hp) (σ : St), Env K B H σ env → ∀ Q : VK, (∀ a vs B' H', Grow B H B' H' → SqL K H' a vs → Reps K B' vs xs → Q (.ref a) H') → t σ H Q
def DeL (c : Ct) (env : List Slot) (e : Expr) {α : Type} [Rep α] (m : Option (List α)) : Prop := ∃ t, (∀ X, Fits c X → PE X e t) ∧ ∀ x, m = some x → EvL c.K env t x

section
variable {c : Ct} {env : List Slot} {e a b : Expr} {α β γ : Type} [Rep α] [Rep β] [Rep γ]
theorem De.of {m m' : Option α} (h : De c env e m) (q : m = m') : De c env e m' := q ▸ h
theorem EvN.de {K : PySem.W.Frag} {t : TE} {xs : List α} (h2 : EvN K env t xs) : EvE K env t xs := by
  refine fun B H σ E Q q => h2 B H σ E Q fun p o B' H' np g nb hp r => ?_
  obtain ⟨vs, rfl, r⟩ := r
  have hB : Le (upd B' p (.lst vs)) H' := fun a u z => by
    by_cases k : a = p
    · subst k
      rw [upd_same] at z
      rw [hp, z]
    · rw [upd_ne k] at z
      exact g.bh a u z
  refine q (.ref p) (upd B' p (.lst vs)) H' ⟨g.b.trans (Le.put nb), hB, g.h, fun a z n => ?_⟩ ⟨p, vs, rfl, SqL.of upd_same, r.mono (Le.put nb)⟩
  rw [upd_ne (fun k => n (by rw [k]; exact np))]
  exact g.f a z n
theorem DeN.de {m : Option (List α)} (h : DeN c env e m) : De c env e m := by
  obtain ⟨t, h1, h2⟩ := h
  exact ⟨t, h1, fun x hx => (h2 x hx).de⟩
theorem De.l {m : Option (List α)} (h : De c env e m) : DeL c env e m := by
  obtain ⟨t, h1, h2⟩ := h
  refine ⟨t, h1, fun x hx B H σ E Q q => h2 x hx B H σ E Q fun v B' H' g r => ?_⟩
  obtain ⟨a, vs, rfl, s, r⟩ := r
  exact q a vs B' H' g (g.bh.l s) r
theorem DeN.l {m : Option (List α)} (h : DeN c env e m) : DeL c env e m := h.de.l

theorem fits_ix {c : Ct} {X : Cx} (F : Fits c X) {i : Nat} {x : Str} (h : c.N[i]? = some x) : X.N[i]? = some x := by rw [F.N]; exact h
theorem fits_vis {c : Ct} {X : Cx} (F : Fits c X) {x : Str} (h : Vis c.sc x) : Vis X.env.scope x := by rw [F.sc]; exact h
theorem fits_loc {c : Ct} {X : Cx} (F : Fits c X) {x : Str} (h : Loc c.sc x) : Loc X.env.scope x := by rw [F.sc]; exact h
def Gv (c : Ct) (x : Str) : Prop := c.sc.names.lookup x = some .globalImplicit
theorem fits_gl {c : Ct} {X : Cx} (F : Fits c X) {x : Str} (h : Gv c x) : Gl X x := by
  show X.env.scope.names.lookup x = some .globalImplicit
  rw [F.sc]; exact h
theorem de_var (i : Nat) {x : Str} {pos : Pos} {y : α} (he : env[i]? = some (.val y)) (hN : c.N[i]? = some x) (hv : Vis c.sc x) (hd : (x == ("__debug__" : Str)) = false := by decide) (hcd : (x == ("__classdict__" : Str)) = false := by decide) :
    De c env (.Name x pos) (some y) := by
  refine ⟨tVar i, fun X F => pe_var (fits_ix F hN) (fits_vis F hv) hd hcd, fun x hx B H σ E Q q => ?_⟩
  cases hx
  obtain ⟨u, e1, r⟩ := E.val he
  exact ⟨u, e1, q u B H (Grow.refl E.bh) r⟩
theorem dl_own (i : Nat) {x : Str} {pos : Pos} {ys : List α} (he : env[i]? = some (.own ys)) (hN : c.N[i]? = some x) (hv : Vis c.sc x) (hd : (x == ("__debug__" : Str)) = false := by decide) (hcd : (x == ("__classdict__" : Str)) = false := by decide) :
    DeL c env (.Name x pos) (some ys) := by
  refine ⟨tVar i, fun X F => pe_var (fits_ix F hN) (fits_vis F hv) hd hcd, fun x hx B H σ E Q q => ?_⟩
  cases hx
  obtain ⟨a, o, e1, e2, e3, vs, rfl, r⟩ := E.own he
  exact ⟨.ref a, e1, q a vs B H (Grow.refl E.bh) (SqL.of e2) r⟩
theorem de_int {i : Int} {j pos} : De c env (.Constant (.int i) j pos) (some i) := ⟨tC (.int i), fun _ _ => pe_int, fun x hx B H σ E Q q => by cases hx; exact q _ B H (Grow.refl E.bh) rfl⟩
theorem de_bl {b : Bool} {j pos} : De c env (.Constant (.bool b) j pos) (some b) := ⟨tC (.bl b), fun _ _ => pe_bl, fun x hx B H σ E Q q => by cases hx; exact q _ B H (Grow.refl E.bh) rfl⟩
theorem de_str {z : Str} {j pos} : De c env (.Constant (.str z) j pos) (some z) := ⟨tC (.str z), fun _ _ => pe_str, fun x hx B H σ E Q q => by cases hx; exact q _ B H (Grow.refl E.bh) rfl⟩
theorem de_glob {x : Str} {pos : Pos} {y : α} {v : V} {u : Value} (hg : Gv c x) (hm : c.mg x = some u) (r : RelV v u) (hr : ∀ B, rep c.K B v y) (hd : (x == ("__debug__" : Str)) = false := by decide) : De c env (.Name x pos) (some y) :=
  ⟨tC v, fun X F => pe_glob (fits_gl F hg) (by rw [F.mg]; exact hm) r hd, fun x hx B H σ E Q q => by cases hx; exact q _ B H (Grow.refl E.bh) (hr B)⟩

theorem bind_some.{u, v} {α : Type u} {β : Type v} {m : Option α} {f : α → Option β} {z : β} (h : (m.bind f) = some z) : ∃ x, m = some x ∧ f x = some z := by
  cases m with
  | none => cases h
  | some x => exact ⟨x, rfl, h⟩
def OpS (K : PySem.W.Frag) (r : R2) (f : α → β → Option γ) : Prop := ∀ (x : α) (y : β) (z : γ), f x y = some z → ∀ (B H : Hp) (v u : V), Le B H → rep K B v x → rep K B u y → ∀ Q : VK, (∀ w B' H', Grow B H B' H' → rep K B' w z → Q w H') → r v u H Q
theorem ev_op {ta tb : TE} {r : R2} {f : α → β → Option γ} {x : α} {y : β} {z : γ} (ha : EvE c.K env ta x) (hb : EvE c.K env tb y) (hr : OpS c.K r f) (hz : f x y = some z) : EvE c.K env (tOp r ta tb) z := fun B H σ E Q q =>
  ha B H σ E _ fun v B1 H1 g1 r1 => hb B1 H1 σ (E.grow g1) _ fun u B2 H2 g2 r2 => hr x y z hz B2 H2 v u g2.bh (Rep.mono g2.b r1) r2 Q fun w B3 H3 g3 r3 => q w B3 H3 ((g1.trans g2).trans g3) r3
theorem de_op {op : Operator} {r : R2} {pos : Pos} {f : α → β → Option γ} {ma : Option α} {mb : Option β} (ho : ∀ X, Fits c X → OpR X (binaryOp op) r) (hr : OpS c.K r f) (ha : De c env a ma) (hb : De c env b mb) :
    De c env (.BinOp a op b pos) (ma.bind fun x => mb.bind fun y => f x y) := by
  obtain ⟨ta, a1, a2⟩ := ha
  obtain ⟨tb, b1, b2⟩ := hb
  refine ⟨_, fun X F => pe_op (ho X F) (a1 X F) (b1 X F), fun z hz => ?_⟩
  obtain ⟨x, ex, hz⟩ := bind_some hz
  obtain ⟨y, ey, hz⟩ := bind_some hz
  exact ev_op (a2 x ex) (b2 y ey) hr hz
theorem de_cmp {op : CmpOp} {r : R2} {pos : Pos} {f : α → β → Option γ} {ma : Option α} {mb : Option β} (ho : ∀ X, Fits c X → OpR X (compareOp op) r) (hr : OpS c.K r f) (ha : De c env a ma) (hb : De c env b mb) (hm : behindInMarks op b = false) :
    De c env (.Compare a [op] [b] pos) (ma.bind fun x => mb.bind fun y => f x y) := by
  obtain ⟨ta, a1, a2⟩ := ha
  obtain ⟨tb, b1, b2⟩ := hb
  refine ⟨_, fun X F => pe_cmpR (ho X F) (a1 X F) (b1 X F) hm, fun z hz => ?_⟩
  obtain ⟨x, ex, hz⟩ := bind_some hz
  obtain ⟨y, ey, hz⟩ := bind_some hz
  exact ev_op (a2 x ex) (b2 y ey) hr hz
theorem ops_I0 {K : PySem.W.Frag} {g : Int → Int → Int} : OpS K (rI0 fun i j => .int (g i j)) (fun (i j : Int) => some (g i j)) := fun x y z hz B H v u hB r1 r2 Q q => by
  cases hz; cases r1; cases r2
  exact ⟨x, y, rfl, rfl, q _ B H (Grow.refl hB) rfl⟩
theorem ops_B0 {K : PySem.W.Frag} {g : Int → Int → Bool} : OpS K (rI0 fun i j => .bl (g i j)) (fun (i j : Int) => some (g i j)) := fun x y z hz B H v u hB r1 r2 Q q => by
  cases hz; cases r1; cases r2
  exact ⟨x, y, rfl, rfl, q _ B H (Grow.refl hB) rfl⟩
theorem ops_I {K : PySem.W.Frag} {C : Int → Int → Prop} {p : Int → Int → Bool} {g : Int → Int → Int} (hp : ∀ i j, p i j = true → C i j) : OpS K (rI C fun i j => .int (g i j)) (fun (i j : Int) => if p i j = true then some (g i j) else none) := fun x y z hz B H v u hB r1 r2 Q q => by
  cases r1; cases r2
  replace hz : (if p x y = true then some (g x y) else none) = some z := hz
  by_cases h : p x y = true
  · rw [if_pos h] at hz
    cases hz
    exact ⟨x, y, rfl, rfl, hp _ _ h, q _ B H (Grow.refl hB) rfl⟩
  · rw [if_neg h] at hz
    cases hz
def small (i : Int) : Bool := decide (-(2 ^ 64) < i) && decide (i < 2 ^ 64)
def mulI (i j : Int) : Option Int := if (small i || small j) = true then some (i * j) else none
def modI (i j : Int) : Option Int := if decide (0 < j) = true then some (i % j) else none
def divI (i j : Int) : Option Int := if (decide (0 < j) && decide (j < 1073741824)) = true then some (i / j) else none
def powI (i j : Int) : Option Int := if (decide (0 ≤ j) && decide (j ≤ 1000000) && decide (i.natAbs < 2 ^ 64)) = true then some (i ^ j.toNat) else none
theorem de_add {pos : Pos} {ma mb : Option Int} (ha : De c env a ma) (hb : De c env b mb) : De c env (.BinOp a .Add b pos) (ma.bind fun x => mb.bind fun y => some (x + y)) := de_op (fun _ _ => op_add) ops_I0 ha hb
theorem de_sub {pos : Pos} {ma mb : Option Int} (ha : De c env a ma) (hb : De c env b mb) : De c env (.BinOp a .Sub b pos) (ma.bind fun x => mb.bind fun y => some (x - y)) := de_op (fun _ _ => op_sub) ops_I0 ha hb
theorem de_mul {pos : Pos} {ma mb : Option Int} (ha : De c env a ma) (hb : De c env b mb) : De c env (.BinOp a .Mult b pos) (ma.bind fun x => mb.bind fun y => mulI x y) :=
  de_op (fun _ _ => op_mul) (ops_I (p := fun i j => small i || small j) fun i j h => by
    rcases Bool.or_eq_true _ _ ▸ h with h | h <;> unfold small at h <;> simp only [Bool.and_eq_true, decide_eq_true_eq] at h
    · exact .inl h
    · exact .inr h) ha hb
theorem de_mod {pos : Pos} {ma mb : Option Int} (ha : De c env a ma) (hb : De c env b mb) : De c env (.BinOp a .Mod b pos) (ma.bind fun x => mb.bind fun y => modI x y) :=
  de_op (fun _ _ => op_mod) (ops_I (p := fun _ j => decide (0 < j)) fun i j h => of_decide_eq_true h) ha hb
theorem de_div {pos : Pos} {ma mb : Option Int} (ha : De c env a ma) (hb : De c env b mb) : De c env (.BinOp a .FloorDiv b pos) (ma.bind fun x => mb.bind fun y => divI x y) :=
  de_op (fun _ _ => op_fdiv) (ops_I (p := fun _ j => decide (0 < j) && decide (j < 1073741824)) fun i j h => by simpa [CDiv] using h) ha hb
theorem de_pow {pos : Pos} {ma mb : Option Int} (ha : De c env a ma) (hb : De c env b mb) : De c env (.BinOp a .Pow b pos) (ma.bind fun x => mb.bind fun y => powI x y) :=
  de_op (fun _ _ => op_pow) (ops_I (p := fun i j => decide (0 ≤ j) && decide (j ≤ 1000000) && decide (i.natAbs < 2 ^ 64)) fun i j h => by
    simp only [Bool.and_eq_true, decide_eq_true_eq] at h
    exact ⟨h.1.1, h.1.2, h.2⟩) ha hb
theorem de_neg {pos : Pos} {ma : Option Int} (ha : De c env a ma) : De c env (.UnaryOp .USub a pos) (ma.bind fun x => some (-x)) := by
  obtain ⟨ta, a1, a2⟩ := ha
  refine ⟨_, fun X F => pe_un un_neg (a1 X F), fun z hz => ?_⟩
  obtain ⟨x, ex, hz⟩ := bind_some hz
  cases hz
  exact fun B H σ E Q q => a2 x ex B H σ E _ fun v B' H' g r => by
    cases r
    exact ⟨x, rfl, q _ B' H' g rfl⟩
class Scal (α : Type) extends Rep α where
  v : α → V
  is : ∀ {K : PySem.W.Frag} {B : Hp} {u : V} {x : α}, Rep.rep K B u x → u = v x
  inj : ∀ {x y : α}, v x = v y → x = y
  sc : ∀ x y, scal (v x) (v y) = true
end
end Dn

set_option Elab.async false
set_option linter.all false
set_option maxRecDepth 100000
namespace Dn
open PySem L2
open Rep (rep)
open ORep (orep)

class Dat (α : Type) extends Rep α where
  toD : α → PyData
  dp : ∀ {K : PySem.W.Frag} {B : Hp} {v : V} {x : α}, Rep.rep K B v x → Dp K B v (toD x)
  dep : Nat
  hdep : ∀ x, (toD x).depth ≤ dep
  dec : DecidableEq α
  eqv : ∀ x y, PyData.eqv (toD x) (toD y) = decide (x = y)
def lay {α : Type} [Dat α] (x : α) : Bool := (Dat.toD x).canLay0
instance : Dat Int := { toD := .int, dp := fun h => by cases h; exact .int _, dep := 0, hdep := fun _ => Nat.le_of_eq rfl, dec := inferInstance, eqv := fun x y => by simp [PyData.eqv]; exact Bool.beq_eq_decide_eq x y }
instance : Dat Bool := { toD := .bool, dp := fun h => by cases h; exact .bl _, dep := 0, hdep := fun _ => Nat.le_of_eq rfl, dec := inferInstance, eqv := fun x y => by simp [PyData.eqv]; exact Bool.beq_eq_decide_eq x y }
instance : Dat Str := { toD := .str, dp := fun h => by cases h; exact .str _, dep := 0, hdep := fun _ => Nat.le_of_eq rfl, dec := inferInstance, eqv := fun x y => by simp [PyData.eqv]; exact Bool.beq_eq_decide_eq x y }
section
variable {α β : Type} [Dat α] [Dat β]
theorem dpAll {K : PySem.W.Frag} {B : Hp} {vs : List V} {xs : List α} (h : Reps K B vs xs) : DpAll K B vs (xs.map Dat.toD) := by
  induction h with
  | nil => exact .nil
  | cons r _ ih => exact .cons (Dat.dp r) ih
theorem depAll (xs : List α) : PyData.depthAll (xs.map Dat.toD) ≤ Dat.dep α := by
  induction xs with
  | nil => simp [PyData.depthAll]
  | cons x xs ih =>
    rw [List.map_cons, PyData.depthAll]
    have := Dat.hdep x
    omega
theorem eqvAll (xs ys : List α) (d : DecidableEq α) : PyData.eqvAll (xs.map Dat.toD) (ys.map Dat.toD) = decide (xs = ys) := by
  induction xs generalizing ys with
  | nil => cases ys <;> simp [PyData.eqvAll]
  | cons x xs ih =>
    cases ys with
    | nil => simp [PyData.eqvAll]
    | cons y ys =>
      rw [List.map_cons, List.map_cons, PyData.eqvAll, ih, Dat.eqv]
      by_cases h : x = y <;> by_cases g : xs = ys <;> simp [h, g]
instance : Dat (List α) where
  toD := fun xs => .list (xs.map Dat.toD)
  dp := fun h => by
    obtain ⟨a, vs, rfl, s, r⟩ := h
    exact .lst s (dpAll r)
  dep := Dat.dep α + 1
  hdep := fun xs => by rw [PyData.depth]; exact Nat.succ_le_succ (depAll xs)
  dec := letI := Dat.dec (α := α); inferInstance
  eqv := fun x y => by
    rw [PyData.eqv, eqvAll x y Dat.dec]
    all_goals exact decide_eq_decide.mpr Iff.rfl
instance : Dat (Tup α) where
  toD := fun xs => .tuple (xs.l.map Dat.toD)
  dp := fun h => by
    obtain ⟨a, vs, rfl, s, r⟩ := h
    exact .tup s (dpAll r)
  dep := Dat.dep α + 1
  hdep := fun xs => by rw [PyData.depth]; exact Nat.succ_le_succ (depAll xs.l)
  dec := letI := Dat.dec (α := α); inferInstance
  eqv := fun x y => by
    rw [PyData.eqv, eqvAll x.l y.l Dat.dec]
    all_goals exact decide_eq_decide.mpr ⟨fun h => by cases x; cases y; cases h; rfl, fun h => by rw [h]⟩
instance : Dat (α × β) where
  toD := fun x => .tuple [Dat.toD x.1, Dat.toD x.2]
  dp := fun h => by
    obtain ⟨a, v1, v2, rfl, s, r, q⟩ := h
    exact .tup s (.cons (Dat.dp r) (.cons (Dat.dp q) .nil))
  dep := max (Dat.dep α) (Dat.dep β) + 1
  hdep := fun x => by
    have h1 := Dat.hdep x.1
    have h2 := Dat.hdep x.2
    simp only [PyData.depth, PyData.depthAll]
    omega
  dec := letI := Dat.dec (α := α); letI := Dat.dec (α := β); inferInstance
  eqv := fun x y => by
    obtain ⟨x1, x2⟩ := x
    obtain ⟨y1, y2⟩ := y
    rw [PyData.eqv, PyData.eqvAll, PyData.eqvAll, PyData.eqvAll, Dat.eqv, Dat.eqv]
    letI := Dat.dec (α := α)
    letI := Dat.dec (α := β)
    by_cases h : x1 = y1 <;> by_cases g : x2 = y2 <;> simp [h, g]
end
instance {α : Type} [Dat α] : DecidableEq α := Dat.dec

section
variable {c : Ct} {env : List Slot} {e a b d : Expr} {es : List Expr} {α β γ : Type} [Rep α] [Rep β] [Rep γ]
theorem fits_units {X : Cx} (F : Fits c X) : X.A.units + 64 < cLine := F.room.units
def eqI {α : Type} [Dat α] (x y : α) : Option Bool := if (lay x && lay y && decide (Dat.dep α ≤ 64)) = true then some (decide (x = y)) else none
theorem lay_sh {α : Type} [Dat α] {x : α} (h : lay x = true) (g : Dat.dep α ≤ 64) : SeqAt.shaped (Dat.toD x) = true := by
  unfold SeqAt.shaped
  rw [Bool.and_eq_true]
  exact ⟨h, decide_eq_true (Nat.le_trans (Dat.hdep x) g)⟩
def len1 (n : Nat) : Bool := decide (n ≤ 100000)
def addS (x y : Str) : Option Str := if len1 (x.length + y.length) = true then some (x ++ y) else none
theorem len1_ok {n : Nat} (h : len1 n = true) : n ≤ sizeLine := Nat.le_trans (of_decide_eq_true h) (by decide)
theorem de_addS {pos : Pos} {ma mb : Option Str} (ha : De c env a ma) (hb : De c env b mb) : De c env (.BinOp a .Add b pos) (ma.bind fun x => mb.bind fun y => addS x y) :=
  de_op (fun _ _ => op_add_str) (fun x y z hz B H v u hB r1 r2 Q q => by
    unfold addS at hz
    split at hz
    · rename_i h
      cases hz; cases r1; cases r2
      exact ⟨x, y, rfl, rfl, len1_ok h, q _ B H (Grow.refl hB) rfl⟩
    · cases hz) ha hb
def inS (x y : Str) : Option Bool := some (!(Builtin.Str.occurrences y x 0 y.length 1).isEmpty)
class Flat (α : Type) extends Rep α where
  v : α → V
  is : ∀ {K : PySem.W.Frag} {B : Hp} {u : V} {x : α}, Rep.rep K B u x → u = v x
  flat : ∀ x, flatV (v x) = true
  eq : ∀ x y, eqV (v x) (v y) = decide (v x = v y)
  inj : ∀ x y, v x = v y → x = y
instance : Flat Int := ⟨V.int, fun h => h, fun _ => rfl, fun x y => by simp [eqV]; exact Bool.beq_eq_decide_eq x y, fun x y h => by injection h⟩
instance : Flat Str := ⟨V.str, fun h => h, fun _ => rfl, fun x y => by simp [eqV]; exact Bool.beq_eq_decide_eq x y, fun x y h => by injection h⟩
theorem Reps.flat {α : Type} [Flat α] {K : PySem.W.Frag} {B : Hp} {vs : List V} {xs : List α} (h : Reps K B vs xs) : vs = xs.map Flat.v := by
  induction h with
  | nil => rfl
  | cons r _ ih => rw [List.map_cons, ← ih, Flat.is r]
theorem inV_map {α : Type} [Flat α] [DecidableEq α] (x : α) (xs : List α) : inV (Flat.v x) (xs.map Flat.v) = decide (x ∈ xs) := by
  unfold inV
  induction xs with
  | nil => simp
  | cons y ys ih =>
    rw [List.map_cons, List.any_cons, ih, Flat.eq]
    by_cases h : y = x
    · subst h; simp
    · have h' : ¬ Flat.v y = Flat.v x := fun q => h (Flat.inj _ _ q)
      have h2 : ¬ x = y := fun q => h q.symm
      simp [h', h2]
theorem flat_all {α : Type} [Flat α] (xs : List α) : (xs.map Flat.v).all flatV = true := by
  rw [List.all_eq_true]
  intro v hv
  obtain ⟨x, _, rfl⟩ := List.mem_map.mp hv
  exact Flat.flat x
theorem pt_of {X : Cx} {e : Expr} {t : TE} (h : PE X e t) (he : ∀ env whole, isTrue e env whole = (do let v ← whole; standAt e.pos; holding [v] (truthy v))) : PT X e (tB t) := pt_val h (he _)
theorem dt_of {m : Option Bool} (h : De c env e m) (he : ∀ env whole, isTrue e env whole = (do let v ← whole; standAt e.pos; holding [v] (truthy v)) := by intro _ _; rfl) : DeT c env e m := by
  obtain ⟨t, h1, h2⟩ := h
  refine ⟨_, fun X F => pt_of (h1 X F) he, fun b hb B H σ E Q q => h2 b hb B H σ E _ fun v B' H' g r => ?_⟩
  cases r
  exact ⟨b, rfl, q B' H' g⟩
theorem dt_cmp {op : CmpOp} {b : Expr} {r : R2} {pos : Pos} {f : α → β → Option Bool} {ma : Option α} {mb : Option β} (ho : ∀ X, Fits c X → OpR X (compareOp op) r) (hr : OpS c.K r f) (ha : De c env a ma) (hb : De c env b mb) (hm : behindInMarks op b = false) :
    DeT c env (.Compare a [op] [b] pos) (ma.bind fun x => mb.bind fun y => f x y) := by
  obtain ⟨ta, a1, a2⟩ := ha
  obtain ⟨tb, b1, b2⟩ := hb
  refine ⟨_, fun X F => pt_cmpR (ho X F) (a1 X F) (b1 X F) hm, fun z hz => ?_⟩
  obtain ⟨x, ex, hz⟩ := bind_some hz
  obtain ⟨y, ey, hz⟩ := bind_some hz
  exact fun B H σ E Q q => ev_op (a2 x ex) (b2 y ey) hr hz B H σ E _ fun v B' H' g r => by
    cases r
    exact ⟨z, rfl, q B' H' g⟩
theorem dt_not {pos : Pos} {m : Option Bool} (h : DeT c env a m) : DeT c env (.UnaryOp .Not a pos) (m.bind fun x => some (!x)) := by
  obtain ⟨t, h1, h2⟩ := h
  refine ⟨_, fun X F => pt_not (h1 X F), fun z hz B H σ E Q q => ?_⟩
  obtain ⟨x, ex, hz⟩ := bind_some hz
  cases hz
  exact h2 x ex B H σ E _ fun B' H' g => q B' H' g
variable {rest : List Expr}
def andO (m n : Option Bool) : Option Bool := m.bind fun x => if x = true then n else some false
def orO (m n : Option Bool) : Option Bool := m.bind fun x => if x = true then some true else n
theorem DeW.t {m : Option Bool} (h : DeW c env e m) : DeT c env e m := by
  obtain ⟨t, h1, h2⟩ := h
  exact ⟨t, fun X F => (h1 X F).pt, h2⟩
theorem dw_and1 {pos : Pos} {m : Option Bool} (h : DeT c env a m) : DeW c env (.BoolOp .And [a] pos) m := by
  obtain ⟨t, h1, h2⟩ := h
  exact ⟨t, fun X F => pw_and1 (h1 X F), h2⟩
theorem dw_or1 {pos : Pos} {m : Option Bool} (h : DeT c env a m) : DeW c env (.BoolOp .Or [a] pos) m := by
  obtain ⟨t, h1, h2⟩ := h
  exact ⟨t, fun X F => pw_or1 (h1 X F), h2⟩
theorem dw_and {pos : Pos} {m n : Option Bool} (h : DeT c env a m) (g : DeW c env (.BoolOp .And (b :: rest) pos) n) : DeW c env (.BoolOp .And (a :: b :: rest) pos) (andO m n) := by
  obtain ⟨t, h1, h2⟩ := h
  obtain ⟨u, g1, g2⟩ := g
  refine ⟨_, fun X F => pw_and (h1 X F) (g1 X F), fun z hz B H σ E Q q => ?_⟩
  obtain ⟨x, ex, hz⟩ := bind_some hz
  refine h2 x ex B H σ E _ fun B' H' g => ?_
  cases x with
  | true =>
    show u σ H' Q
    exact g2 z hz B' H' σ (E.grow g) Q fun B2 H2 k => q B2 H2 (g.trans k)
  | false =>
    cases hz
    exact q B' H' g
theorem dw_or {pos : Pos} {m n : Option Bool} (h : DeT c env a m) (g : DeW c env (.BoolOp .Or (b :: rest) pos) n) : DeW c env (.BoolOp .Or (a :: b :: rest) pos) (orO m n) := by
  obtain ⟨t, h1, h2⟩ := h
  obtain ⟨u, g1, g2⟩ := g
  refine ⟨_, fun X F => pw_or (h1 X F) (g1 X F), fun z hz B H σ E Q q => ?_⟩
  obtain ⟨x, ex, hz⟩ := bind_some hz
  refine h2 x ex B H σ E _ fun B' H' g => ?_
  cases x with
  | false =>
    show u σ H' Q
    exact g2 z hz B' H' σ (E.grow g) Q fun B2 H2 k => q B2 H2 (g.trans k)
  | true =>
    cases hz
    exact q B' H' g
theorem de_one {op pos} {m : Option Bool} (h : De c env a m) : De c env (.BoolOp op [a] pos) m := by
  obtain ⟨t, h1, h2⟩ := h
  exact ⟨t, fun X F => pe_one (h1 X F), h2⟩
theorem de_and {pos : Pos} {m n : Option Bool} (h : De c env a m) (g : De c env (.BoolOp .And (b :: rest) pos) n) : De c env (.BoolOp .And (a :: b :: rest) pos) (andO m n) := by
  obtain ⟨t, h1, h2⟩ := h
  obtain ⟨u, g1, g2⟩ := g
  refine ⟨_, fun X F => pe_and (h1 X F) (g1 X F), fun z hz B H σ E Q q => ?_⟩
  obtain ⟨x, ex, hz⟩ := bind_some hz
  refine h2 x ex B H σ E _ fun v B' H' g r => ?_
  cases r
  refine ⟨x, rfl, ?_⟩
  cases x with
  | true =>
    show u σ H' Q
    exact g2 z hz B' H' σ (E.grow g) Q fun v B2 H2 k => q v B2 H2 (g.trans k)
  | false =>
    cases hz
    exact q _ B' H' g rfl
end
end Dn

set_option Elab.async false
set_option linter.all false
set_option maxRecDepth 100000
namespace Dn
open PySem PySem.Spec PyProof.Rows L2
def uniq {κ : Type} [DecidableEq κ] (ks : List κ) : List κ := ks.foldl (fun acc k => if k ∈ acc then acc else acc ++ [k]) []
section
variable {κ : Type} [DecidableEq κ]
theorem uniq_more (ks : List κ) (k : κ) : uniq (ks ++ [k]) = if k ∈ uniq ks then uniq ks else uniq ks ++ [k] := by
  unfold uniq
  rw [List.foldl_append]
  rfl
theorem uniq_grows (ks : List κ) : (uniq ks).length ≤ ks.length := by
  have gen : ∀ (l acc : List κ), (l.foldl (fun acc k => if k ∈ acc then acc else acc ++ [k]) acc).length ≤ acc.length + l.length := by
    intro l
    induction l with
    | nil => intro acc; exact Nat.le_refl _
    | cons k l ih =>
      intro acc
      rw [List.foldl_cons, List.length_cons]
      refine Nat.le_trans (ih _) ?_
      split
      · omega
      · rw [List.length_append, List.length_singleton]
        omega
  have h := gen ks []
  rw [List.length_nil, Nat.zero_add] at h
  exact h
end
section
variable {prog : Program} {w : World} {A : Around} {κ : Type} [DecidableEq κ] {knd : KeyKind prog w κ}
abbrev Holds (knd : KeyKind prog w κ) (h : Heap) (S : Addr) (ks : List κ) : Prop := h.SetOf knd S (fun k => decide (k ∈ uniq ks)) (uniq ks).length
theorem Holds.other {h h' : Heap} {S : Addr} {ks : List κ} (q : Holds knd h S ks) (k : ∀ o, h.get? S = some o → h'.get? S = some o) : Holds knd h' S ks :=
  let ⟨o, es, ep, t, ho, r⟩ := q
  ⟨o, es, ep, t, k o ho, r⟩
theorem Holds.cast {h : Heap} {S : Addr} {ks : List κ} {f : κ → Bool} {n : Nat} (q : h.SetOf knd S f n) (e1 : ∀ k, f k = decide (k ∈ uniq ks)) (e2 : n = (uniq ks).length) : Holds knd h S ks := by
  have e : f = fun k => decide (k ∈ uniq ks) := funext e1
  rw [e, e2] at q
  exact q
theorem fill_set {R : Result → Shared → Prop} {it S : Addr} {fp wr : List Addr} {G : Array GenState → Array GenState → Prop} {Pv : Nat → Value → Prop} {St : Nat → Shared → Prop} {ks : List κ}
    (W : WalksS prog w A.in1 it fp wr G ks.length Pv St) (out : S ∉ fp) (ok : ∀ i v, Pv i v → v.scannable = true ∧ ∃ k, ks[i]? = some k ∧ knd.is k v = true) (few : ks.length + 1 < scanBound) :
    ∀ (left i : Nat) (s : Shared), i + left = ks.length → St i s → Holds knd s.heap S (ks.take i) →
      (∀ s', Moved (S :: wr) G s s' → Holds knd s'.heap S ks → R (.ok (.ret .none)) s') → codeAny (model prog w) A (.builtin "set.update.loop" ⟨[.ref S, .ref it], []⟩) R s := by
  have outw : S ∉ wr := fun z => out (W.sub _ z)
  have more : ∀ b ∈ wr, b ∈ S :: wr := fun b hb => List.mem_cons_of_mem _ hb
  intro left
  induction left with
  | zero =>
    intro i s hi st hS fin
    have e : i = ks.length := hi
    subst e
    rw [List.take_length] at hS
    refine codeAny_builtin PyProof.Rows.F.entry_set_update_loop ?_
    rw [Around.under_plainId PyProof.Rows.F.plain_set_update_loop _]
    show wpAny _ A.in1 (pyNext (.ref it) >>= _) _ _ s
    refine wpAny_bind (W.done s _ _ st fun s1 mv => ?_)
    show wpAny _ A.in1 (ret Value.none) _ _ s1
    exact wpAny_pure (fin s1 (mv.mono more) (hS.other fun o ho => mv.heap S o outw ho))
  | succ left ih =>
    intro i s hi st hS fin
    have lt : i < ks.length := by omega
    refine codeAny_builtin PyProof.Rows.F.entry_set_update_loop ?_
    rw [Around.under_plainId PyProof.Rows.F.plain_set_update_loop _]
    show wpAny _ A.in1 (pyNext (.ref it) >>= _) _ _ s
    refine wpAny_bind (W.item i s _ _ lt st fun v s1 pv st1 mv => ?_)
    obtain ⟨sc, k, ek, isk⟩ := ok i v pv
    have hS1 := hS.other (h' := s1.heap) fun o ho => mv.heap S o outw ho
    show wpAny _ A.in1 (holding [v] (setAdd S v) >>= _) _ _ s1
    refine wpAny_bind (wpAny_holding ?_)
    unfold setAdd
    refine wpAny_holding (wpAny_bind (knd.pyHash isk ?_))
    have room : (uniq (ks.take i)).length + 1 < scanBound := by
      have h1 := uniq_grows (ks.take i)
      rw [List.length_take] at h1
      omega
    refine wpAny_setAddHashed_of (knd := knd) (s := { s1 with toks := s1.toks + 1 }) isk sc hS1 room fun h2 same hS2 => ?_
    have tk : ks.take (i + 1) = ks.take i ++ [k] := by
      rw [List.take_add_one, ek]
      rfl
    have hS3 : Holds knd h2 S (ks.take (i + 1)) := Holds.cast hS2 (fun k' => by
      rw [tk, uniq_more]
      by_cases c : k ∈ uniq (ks.take i)
      · rw [if_pos c]
        by_cases z : k' = k
        · subst z; simp [c]
        · simp [z]
      · rw [if_neg c]
        by_cases z : k' = k
        · subst z; simp
        · simp [z]) (by
      rw [tk, uniq_more]
      by_cases c : k ∈ uniq (ks.take i) <;> simp [c])
    refine wpAny_pure ⟨plainId_quiet PyProof.Rows.F.plain_set_update_loop _, ih (i + 1) _ (by omega) (W.frame _ s1 _ _ st1 (Nat.le_succ _) fun b hb o e => ?_) hS3 fun s4 mv4 hS4 => fin s4 (Moved.trans W.gtrans ((mv.mono more).then_heap (Nat.le_succ _) fun b o hb e => ?_) mv4) hS4⟩
    · rw [same.2 b fun z => out (by rw [← z]; exact hb)]
      exact e
    · rw [same.2 b fun z => hb (by rw [z]; exact List.mem_cons_self)]
      exact e

set_option maxHeartbeats 4000000 in
theorem set_call {E : Value → Shared → Prop} {s : Shared} {l : Addr} {items : Array Value} {ks : List κ} {Q : Value → Shared → Prop} (calm : A.handled = none) (hl : s.heap.IsList l items)
    (len : ks.length = items.size) (ok : ∀ (i : Nat) (v : Value), items[i]? = some v → v.scannable = true ∧ ∃ k, ks[i]? = some k ∧ knd.is k v = true) (few : ks.length + 1 < scanBound)
    (fin : ∀ (h' : Heap) (tk : Nat), Holds knd h' s.heap.objs.size ks → (∀ b o, b < s.heap.objs.size → s.heap.get? b = some o → h'.get? b = some o) → Q (.ref s.heap.objs.size) { s with heap := h', toks := tk }) :
    wpAny (model prog w) A (call (.type "set") [.ref l]) Q E s := by
  obtain ⟨cm, tm, hmro⟩ := PySem.F.called_set.mro
  have hmade := PySem.F.called_set.made
  have hsub := PySem.F.called_set.sub
  refine wpAny_call (codeAny_of_tree ?_)
  show wpAny _ _ (callAny (.type "set") _) _ _ _
  refine wpAny_pure ⟨Code.quiet_builtin _ (by decide +kernel), codeAny_builtin PySem.F.entry_type_call ?_⟩
  rw [Around.under_plain (weight_type_call_type "set" [.ref l] []) rfl]
  have a1 := PySem.F.called_set.notType
  have a2 := PySem.F.called_set.canCreate
  have a3 := PySem.F.typeCall_set_1 (.ref l)
  repeat (any_goals (first | assumption | wp_step))
  generalize hS0 : s.heap.objs.size = S at *
  have mk : ∀ led : Bool, (s.heap.push { cls := .type "set", dict := none, data := .set #[] 0 (.fresh 0 0 led) }).get? S = some { cls := .type "set", dict := none, data := .set #[] 0 (.fresh 0 0 led) } := fun led => by rw [← hS0]; exact Heap.get?_push_size _ rfl
  refine codeAny_mono (code_set_new_1 (.ref l) (E := E) (Q₁ := fun v s1 => ∃ led : Bool, v = .ref S ∧ s1 = { s with heap := s.heap.push { cls := .type "set", dict := none, data := .set #[] 0 (.fresh 0 0 led) } }) fun led => ⟨led, by rw [hS0], rfl⟩) fun r s1 hr => ?_
  cases r with
  | error e => exact hr
  | ok fl =>
    cases fl with
    | ret v =>
      obtain ⟨led, rfl, rfl⟩ := hr
      have at_S := mk led
      have ty : Shared.TypeIs { s with heap := s.heap.push { cls := .type "set", dict := none, data := .set #[] 0 (.fresh 0 0 led) } } (.ref S) "set" := ⟨_, at_S, rfl⟩
      have b1 := PySem.F.called_set.init.lookup
      have b2 := PySem.F.called_set.init.bind (.ref S)
      repeat (any_goals (first | assumption | wp_step))
      refine codeAny_mono (codeAny_call_builtin (R := wants (fun r s2 => r = .none ∧ ∃ h' tk, s2 = { s with heap := h', toks := tk } ∧ Holds knd h' S ks ∧ (∀ b o, b < S → s.heap.get? b = some o → h'.get? b = some o)) E)
        PySem.F.called_set.init.plain PySem.F.entry_set_init (check_set_init_1 ty ?_)) fun r2 s2 hr2 => ?_
      · obtain ⟨⟨ocls, odict, odata, oslots⟩, hol, hcl, nl, hdl⟩ := hl
        simp only at hcl hdl
        subst hcl hdl
        have lS : l < S := by
          rw [← hS0]
          exact Heap.lt_size hol
        have hol' : (s.heap.push { cls := .type "set", dict := none, data := .set #[] 0 (.fresh 0 0 led) }).get? l = some { cls := .type "list", dict := odict, data := .seq items nl, slots := oslots } := Heap.get?_push_of_some _ hol
        have c1 := PySem.F.sub_list_set
        have c2 := PySem.F.sub_list_frozenset
        have c3 : (Value.type "list" == Value.type "dict") = false := by decide
        have hl1 : (s.heap.push { cls := .type "set", dict := none, data := .set #[] 0 (.fresh 0 0 led) }).IsList l items := ⟨_, hol', rfl, nl, rfl⟩
        unfold Builtin.«set.__init__» noKeywords Builtin.Frozenset.updateFrom
        generalize hit : pyIter = PI
        wp_walk
        subst hit
        refine wpAny_pyIter_list hl1 (wpAny_bind (wpAny_runValue ?_))
        have sz : (s.heap.push { cls := .type "set", dict := none, data := .set #[] 0 (.fresh 0 0 led) }).objs.size = S + 1 := by rw [Heap.size_push, hS0]
        rw [sz]
        have calm3 : A.in1.in1.in1.handled = none := by simp [calm]
        have out : S ∉ [S + 1, l] := by
          simp only [List.mem_cons, List.not_mem_nil, or_false, not_or]
          exact ⟨Nat.ne_of_lt (Nat.lt_succ_self _), Nat.ne_of_gt lS⟩
        have WW := (Walks.list (prog := prog) (w := w) calm3 (S + 1) l (Nat.ne_of_lt (Nat.lt_succ_of_lt lS)) items).toS
        rw [← len] at WW
        have it1 : ((s.heap.push { cls := .type "set", dict := none, data := .set #[] 0 (.fresh 0 0 led) }).push { cls := .type "list_iterator", data := .fields #[.ref l, .int 0 0] }).get? (S + 1) = some { cls := .type "list_iterator", data := .fields #[.ref l, .int 0 0] } := by
          rw [← sz]
          exact Heap.get?_push_size _ rfl
        refine fill_set WW out ok few ks.length 0 _ (by omega) ⟨⟨_, it1, rfl, rfl⟩, (hl1.push _)⟩ ?_ ?_
        · have g := Heap.get?_push_of_some { cls := .type "list_iterator", data := .fields #[.ref l, .int 0 0] } at_S
          exact Holds.cast ((PyProof.Rows.setObjOf_fresh (knd := knd) led).setOf g (by unfold scanBound; omega)) (fun _ => rfl) rfl
        · intro s5 mv hS5
          obtain ⟨h5, g5, d5, t5, o5⟩ := s5
          have e1 : g5 = s.gens := mv.gens
          have e2 : d5 = s.drawn := mv.drawn
          have e3 : o5 = s.os := mv.os
          subst e1 e2 e3
          show wpAny _ _ _ _ _ _
          refine wpAny_pure ?_
          show wpAny _ _ (ret Value.none) _ _ _
          refine wpAny_pure ⟨rfl, h5, t5, rfl, hS5, fun b o hb e => mv.heap b o ?_ (Heap.get?_push_of_some _ (Heap.get?_push_of_some _ e))⟩
          simp only [List.mem_cons, List.not_mem_nil, or_false, not_or]
          exact ⟨Nat.ne_of_lt hb, Nat.ne_of_lt (Nat.lt_succ_of_lt hb)⟩
      · cases r2 with
        | error e => exact hr2
        | ok fl2 =>
          cases fl2 with
          | ret r =>
            obtain ⟨rfl, h', tk, rfl, hS', k'⟩ := hr2
            repeat (any_goals (first | assumption | wp_step))
            exact fin _ _ hS' k'
          | _ => exact hr2.elim
    | _ => exact hr.elim
end
section
variable {X : Cx} {a : Expr} {ta : TE}
def tLenUniq (K : PySem.W.Frag) (ta : TE) : TE := fun σ H Q => ta σ H fun x H1 => ∃ (l : Addr) (xs : List Str), x = .ref l ∧ SqL K H1 l (xs.map V.str) ∧ xs.length ≤ 4000 ∧ Q (.int ((uniq xs).length : Nat)) H1
theorem pe_lenUniq {p p2 q pos : Pos} (hg : Gl X "len") (hm : X.mg "len" = none) (hg2 : Gl X "set") (hm2 : X.mg "set" = none) (ha : PE X a ta) (hc : X.calm = true)
    (na : starEach [a] X.env = (false, eval a X.env) :: starEach [] X.env) : PE X (.Call (.Name "len" p) [.Call (.Name "set" p2) [a] [] q] [] pos) (tLenUniq X.K ta) := by
  refine ⟨fun pins s σ H Q I h => ?_⟩
  refine Call_ (ld_blt I hg hm PySem.boot_len ?_)
  refine PyProof.Rows.callWith_builtin1 (PyProof.Rows.args_cons ?_ rfl) rfl rfl
  refine Call_ (ld_blt I hg2 hm2 PyProof.Rows.boot_set ?_)
  refine PyProof.Rows.callWith_type1 (PyProof.Rows.args_cons (thn (ha.run pins s σ H _ I h) fun v s1 ⟨x, H1, I1, r1, q1⟩ => PyProof.Rows.args_nil ?_) na) na rfl
  obtain ⟨l, xs, rfl, hq, few, q1⟩ := q1
  cases r1
  obtain ⟨its, r, pl, hz⟩ := I1.list hq
  have len : xs.length = its.toArray.size := by rw [List.size_toArray, ← r.length, List.length_map]
  refine set_call (knd := strKind X.prog X.w) (ks := xs) (I1.ok.hd hc) pl.isList len (fun i v e => ?_) (by unfold scanBound; omega) fun h' tk hS k => PyProof.Rows.args_nil ?_
  · rw [List.getElem?_toArray] at e
    have il : i < its.length := (List.getElem?_eq_some_iff.mp e).1
    have ix : i < xs.length := by
      rw [len, List.size_toArray]
      exact il
    have ex : (xs.map V.str)[i]? = some (.str xs[i]) := by rw [List.getElem?_map, List.getElem?_eq_getElem ix]; rfl
    obtain ⟨u, eu, ru⟩ := r.get ex
    rw [e] at eu
    cases eu
    obtain ⟨t, rfl⟩ := ru
    exact ⟨rfl, xs[i], List.getElem?_eq_getElem ix, by show Value.isStrOf xs[i] (.str xs[i] t) = true; simp [Value.isStrOf]⟩
  · have le := uniq_grows xs
    obtain ⟨o, es, ep, t, ho, hex, hd, _, _, _, hf, hn⟩ := hS
    have I2 : Inv X pins σ H1 { s1 with heap := h', toks := tk } := I1.kept fun b o e => k b o (Heap.lt_size e) e
    exact call_len_set ho hex hd hf (by rw [hn] <;> omega) ⟨.int (uniq xs).length, H1, I2.tok _, ⟨_, by rw [hn]⟩, q1⟩
end
end Dn

set_option Elab.async false
set_option linter.all false
set_option maxRecDepth 100000
namespace Dn
open PySem L2
open Rep (rep)
open ORep (orep)

section
variable {c : Ct} {env : List Slot} {e a b d : Expr} {es : List Expr} {α β γ : Type} [Rep α] [Rep β] [Rep γ]
def DeI (c : Ct) (env : List Slot) (es : List Expr) {α : Type} [Rep α] (m : Option (List α)) : Prop :=
  ∃ t, (∀ X, Fits c X → PA X es t) ∧ ∀ xs, m = some xs → ∀ (B H : Hp) (σ : St), Env c.K B H σ env → ∀ Q : List V → Hp → Prop, (∀ vs B' H', Grow B H B' H' → Reps c.K B' vs xs → Q vs H') → t σ H Q
theorem di_nil : DeI c env [] (some ([] : List α)) := ⟨tNil, fun _ _ => pa_nil, fun xs hx B H σ E Q q => by
  cases hx
  exact q [] B H (Grow.refl E.bh) .nil⟩
theorem di_cons {m : Option α} {n : Option (List α)} (h : De c env e m) (g : DeI c env es n) (hs : ∀ env, starEach (e :: es) env = (false, eval e env) :: starEach es env := by intro _; rfl) :
    DeI c env (e :: es) (m.bind fun x => n.bind fun xs => some (x :: xs)) := by
  obtain ⟨t, h1, h2⟩ := h
  obtain ⟨u, g1, g2⟩ := g
  refine ⟨_, fun X F => pa_cons (h1 X F) (g1 X F) (hs _), fun z hz B H σ E Q q => ?_⟩
  obtain ⟨x, ex, hz⟩ := bind_some hz
  obtain ⟨xs, exs, hz⟩ := bind_some hz
  cases hz
  exact h2 x ex B H σ E _ fun v B1 H1 k1 r1 => g2 xs exs B1 H1 σ (E.grow k1) _ fun vs B2 H2 k2 r2 => q (v :: vs) B2 H2 (k1.trans k2) (.cons (Rep.mono k2.b r1) r2)
def capL {α : Type} (xs : List α) : Option (List α) := if len1 xs.length = true then some xs else none
theorem capL_some {α : Type} {xs ys : List α} (h : capL xs = some ys) : ys = xs ∧ xs.length ≤ 100000 := by
  unfold capL at h
  split at h
  · rename_i g
    cases h
    exact ⟨rfl, of_decide_eq_true g⟩
  · cases h
theorem line_of {n : Nat} (h : n ≤ 100000) : n ≤ sizeLine := Nat.le_trans h (by decide)
theorem dn_lst {m : Option (List α)} {pos : Pos} (h : DeI c env es m) : DeN c env (.List es pos) (m.bind capL) := by
  obtain ⟨t, h1, h2⟩ := h
  refine ⟨_, fun X F => pe_lst (h1 X F), fun z hz B H σ E Q q => ?_⟩
  obtain ⟨x, ex, hz⟩ := bind_some hz
  obtain ⟨rfl, hl⟩ := capL_some hz
  exact h2 _ ex B H σ E _ fun vs B' H' g r => ⟨by rw [r.len]; exact line_of hl, fun p np => q p _ B' _ (g.none np) (g.trans (Grow.free g.bh np)) (g.bh.none np) upd_same ⟨vs, rfl, r⟩⟩
theorem de_tupH {m : Option (List α)} {pos : Pos} {x1} (h : DeI c env es m) : De c env (.Tuple es x1 pos) (m.bind fun xs => (capL xs).map Tup.mk) := by
  obtain ⟨t, h1, h2⟩ := h
  refine ⟨_, fun X F => pe_tup (h1 X F), fun z hz B H σ E Q q => ?_⟩
  obtain ⟨x, ex, hz⟩ := bind_some hz
  have hz' : ∃ y, capL x = some y ∧ z = Tup.mk y := by
    cases g : capL x with
    | none => rw [g] at hz; cases hz
    | some y =>
      rw [g] at hz
      cases hz
      exact ⟨y, rfl, rfl⟩
  obtain ⟨y, ey, rfl⟩ := hz'
  obtain ⟨rfl, hl⟩ := capL_some ey
  exact h2 _ ex B H σ E _ fun vs B' H' g r => ⟨by rw [r.len]; exact line_of hl, fun p np => q (.ref p) _ _ (g.trans (Grow.new g.bh np)) ⟨p, vs, rfl, SqT.of upd_same, r.mono (Le.put (g.bh.none np))⟩⟩
theorem de_pair {m : Option α} {n : Option β} {pos : Pos} {x1} (ha : De c env a m) (hb : De c env b n) (hs : ∀ env, starEach [a, b] env = (false, eval a env) :: starEach [b] env := by intro _; rfl) (hs2 : ∀ env, starEach [b] env = (false, eval b env) :: starEach [] env := by intro _; rfl) :
    De c env (.Tuple [a, b] x1 pos) (m.bind fun x => n.bind fun y => some (x, y)) := by
  obtain ⟨t, h1, h2⟩ := ha
  obtain ⟨u, g1, g2⟩ := hb
  refine ⟨_, fun X F => pe_tup (pa_cons (h1 X F) (pa_cons (g1 X F) pa_nil (hs2 _)) (hs _)), fun z hz B H σ E Q q => ?_⟩
  obtain ⟨x, ex, hz⟩ := bind_some hz
  obtain ⟨y, ey, hz⟩ := bind_some hz
  cases hz
  exact h2 x ex B H σ E _ fun v B1 H1 k1 r1 => g2 y ey B1 H1 σ (E.grow k1) _ fun w B2 H2 k2 r2 =>
    ⟨by show 2 ≤ sizeLine; decide, fun p np => q (.ref p) _ _ ((k1.trans k2).trans (Grow.new k2.bh np)) ⟨p, v, w, rfl, SqT.of upd_same, Rep.mono (k2.b.trans (Le.put (k2.bh.none np))) r1, Rep.mono (Le.put (k2.bh.none np)) r2⟩⟩
theorem Reps.at {K : PySem.W.Frag} {B : Hp} {vs : List V} {xs : List α} (h : Reps K B vs xs) {i : Int} {x : α} (e : atI xs i = some x) : ∃ v, atI vs i = some v ∧ rep K B v x := by
  unfold atI at e ⊢
  rw [h.len]
  obtain ⟨j, ej, e⟩ := bind_some e
  obtain ⟨v, ev, r⟩ := h.get' e
  exact ⟨v, by rw [ej]; exact ev, r⟩
theorem de_ixL {pos : Pos} {m : Option (List α)} {n : Option Int} (h : DeL c env a m) (g : De c env b n) (hs : PlainIx b := by exact fun _ _ => rfl) : De c env (.Subscript a b pos) (m.bind fun xs => n.bind fun i => atI xs i) := by
  obtain ⟨t, h1, h2⟩ := h
  obtain ⟨u, g1, g2⟩ := g
  refine ⟨tOp (rIxL c.K) t u, fun X F => pe_ix (by rw [← F.K]; exact ix_list) (h1 X F) (g1 X F) hs, fun z hz B H σ E Q q => ?_⟩
  obtain ⟨x, ex, hz⟩ := bind_some hz
  obtain ⟨i, ei, hz⟩ := bind_some hz
  refine h2 x ex B H σ E _ fun p vs B1 H1 k1 s r => g2 i ei B1 H1 σ (E.grow k1) _ fun w B2 H2 k2 r2 => ?_
  cases r2
  obtain ⟨v, ev, rv⟩ := r.at hz
  exact ⟨p, vs, i, v, rfl, rfl, k2.h.l s, ev, q v B2 H2 (k1.trans k2) (Rep.mono k2.b rv)⟩
theorem de_ixT {pos : Pos} {m : Option (Tup α)} {n : Option Int} (h : De c env a m) (g : De c env b n) (hs : PlainIx b := by exact fun _ _ => rfl) : De c env (.Subscript a b pos) (m.bind fun xs => n.bind fun i => atI xs.l i) := by
  obtain ⟨t, h1, h2⟩ := h
  obtain ⟨u, g1, g2⟩ := g
  refine ⟨tOp (rIxT c.K) t u, fun X F => pe_ix (by rw [← F.K]; exact ix_tup) (h1 X F) (g1 X F) hs, fun z hz B H σ E Q q => ?_⟩
  obtain ⟨x, ex, hz⟩ := bind_some hz
  obtain ⟨i, ei, hz⟩ := bind_some hz
  refine h2 x ex B H σ E _ fun y B1 H1 k1 r => g2 i ei B1 H1 σ (E.grow k1) _ fun w B2 H2 k2 r2 => ?_
  cases r2
  obtain ⟨p, vs, rfl, s, r⟩ := r
  obtain ⟨v, ev, rv⟩ := r.at hz
  exact ⟨p, vs, i, v, rfl, rfl, k2.bh.t (k2.b.t s), ev, q v B2 H2 (k1.trans k2) (Rep.mono k2.b rv)⟩
theorem de_fst {pos p2 : Pos} {k : Nat} {m : Option (α × β)} (h : De c env a m) : De c env (.Subscript a (.Constant (.int 0) k p2) pos) (m.map (·.1)) := by
  obtain ⟨t, h1, h2⟩ := h
  refine ⟨tOp (rIxT c.K) t (tC (.int 0)), fun X F => pe_ix (by rw [← F.K]; exact ix_tup) (h1 X F) pe_int (fun _ _ => rfl), fun z hz B H σ E Q q => ?_⟩
  cases m with
  | none => cases hz
  | some x =>
    cases hz
    refine h2 x rfl B H σ E _ fun y B1 H1 k1 r => ?_
    obtain ⟨p, v1, v2, rfl, s, r1, r2⟩ := r
    exact ⟨p, [v1, v2], 0, v1, rfl, rfl, k1.bh.t s, rfl, q v1 B1 H1 k1 r1⟩
theorem de_snd {pos p2 : Pos} {k : Nat} {m : Option (α × β)} (h : De c env a m) : De c env (.Subscript a (.Constant (.int 1) k p2) pos) (m.map (·.2)) := by
  obtain ⟨t, h1, h2⟩ := h
  refine ⟨tOp (rIxT c.K) t (tC (.int 1)), fun X F => pe_ix (by rw [← F.K]; exact ix_tup) (h1 X F) pe_int (fun _ _ => rfl), fun z hz B H σ E Q q => ?_⟩
  cases m with
  | none => cases hz
  | some x =>
    cases hz
    refine h2 x rfl B H σ E _ fun y B1 H1 k1 r => ?_
    obtain ⟨p, v1, v2, rfl, s, r1, r2⟩ := r
    exact ⟨p, [v1, v2], 1, v2, rfl, rfl, k1.bh.t s, rfl, q v2 B1 H1 k1 r2⟩
def atS (z : Str) (i : Int) : Option Str := if len1 z.length = true then (atI z.cps.toList i).map fun ch => ⟨#[ch]⟩ else none
theorem de_ixS {pos : Pos} {m : Option Str} {n : Option Int} (h : De c env a m) (g : De c env b n) (hs : PlainIx b := by exact fun _ _ => rfl) : De c env (.Subscript a b pos) (m.bind fun xs => n.bind fun i => atS xs i) := by
  obtain ⟨t, h1, h2⟩ := h
  obtain ⟨u, g1, g2⟩ := g
  refine ⟨tOp rIxS t u, fun X F => pe_ix ix_str (h1 X F) (g1 X F) hs, fun z hz B H σ E Q q => ?_⟩
  obtain ⟨x, ex, hz⟩ := bind_some hz
  obtain ⟨i, ei, hz⟩ := bind_some hz
  refine h2 x ex B H σ E _ fun y B1 H1 k1 r => g2 i ei B1 H1 σ (E.grow k1) _ fun w B2 H2 k2 r2 => ?_
  cases r2
  cases r
  unfold atS at hz
  split at hz
  · rename_i hl
    cases g : atI x.cps.toList i with
    | none => rw [g] at hz; cases hz
    | some ch =>
      rw [g] at hz
      cases hz
      exact ⟨x, i, ch, rfl, rfl, len1_ok hl, g, q _ B2 H2 (k1.trans k2) rfl⟩
  · cases hz
def DeO (c : Ct) (env : List Slot) (e : Option Expr) (m : Option (Option Int)) : Prop :=
  ∃ t, (∀ X, Fits c X → PO X e t) ∧ ∀ x, m = some x → ∀ (B H : Hp) (σ : St), Env c.K B H σ env → ∀ Q : Option Int → Hp → Prop, (∀ B' H', Grow B H B' H' → Q x H') → t σ H Q
theorem do_none : DeO c env none (some none) := ⟨_, fun _ _ => po_none, fun x hx B H σ E Q q => by cases hx; exact q B H (Grow.refl E.bh)⟩
theorem do_some {m : Option Int} (h : De c env e m) : DeO c env (some e) (m.map some) := by
  obtain ⟨t, h1, h2⟩ := h
  refine ⟨_, fun X F => po_some (h1 X F), fun x hx B H σ E Q q => ?_⟩
  cases m with
  | none => cases hx
  | some y =>
    cases hx
    exact h2 y rfl B H σ E _ fun v B' H' g r => by
      cases r
      exact ⟨y, rfl, q B' H' g⟩
def cutG {α : Type} (xs : List α) (lo hi : Option Int) : List α := (xs.drop (HT.sIx xs.length 0 lo)).take (HT.sIx xs.length xs.length hi - HT.sIx xs.length 0 lo)
theorem Reps.cut {K : PySem.W.Frag} {B : Hp} {vs : List V} {xs : List α} (h : Reps K B vs xs) (lo hi : Option Int) : Reps K B (cutV vs lo hi) (cutG xs lo hi) := by
  unfold cutV cutG
  rw [h.len]
  exact (h.drop _).take _
theorem dn_slL {pos p2 : Pos} {lo hi : Option Expr} {m : Option (List α)} {ml mh : Option (Option Int)} (h : DeL c env a m) (hl : DeO c env lo ml) (hh : DeO c env hi mh) :
    DeN c env (.Subscript a (.Slice lo hi none p2) pos) (m.bind fun xs => ml.bind fun l => mh.bind fun u => some (cutG xs l u)) := by
  obtain ⟨t, h1, h2⟩ := h
  obtain ⟨tl, l1, l2⟩ := hl
  obtain ⟨th, u1, u2⟩ := hh
  refine ⟨tSl (rSlL c.K) t tl th, fun X F => pe_slice (by rw [← F.K]; exact sl_list) (h1 X F) (l1 X F) (u1 X F), fun z hz B H σ E Q q => ?_⟩
  obtain ⟨x, ex, hz⟩ := bind_some hz
  obtain ⟨l, el, hz⟩ := bind_some hz
  obtain ⟨u, eu, hz⟩ := bind_some hz
  cases hz
  refine h2 x ex B H σ E _ fun p vs B1 H1 k1 s r => l2 l el B1 H1 σ (E.grow k1) _ fun B2 H2 k2 => u2 u eu B2 H2 σ (E.grow (k1.trans k2)) _ fun B3 H3 k3 => ?_
  refine ⟨p, vs, rfl, k3.h.l (k2.h.l s), fun n hn => ?_⟩
  have g := (k1.trans k2).trans k3
  exact q n _ B3 _ (g.none hn) (g.trans (Grow.free g.bh hn)) (g.bh.none hn) upd_same ⟨_, rfl, (r.mono (k2.b.trans k3.b)).cut l u⟩
theorem de_b1 {x : Str} {id : String} {p pos : Pos} {r : List V → Hp → VK → Prop} {f : α → Option β} {m : Option α} (hc : ∀ X, Fits c X → CallR X (.builtin id) r)
    (hr : ∀ (y : α) (z : β), f y = some z → ∀ (B H : Hp) (v : V), Le B H → rep c.K B v y → ∀ Q : VK, (∀ w B' H', Grow B H B' H' → rep c.K B' w z → Q w H') → r [v] H Q)
    (hg : Gv c x) (hm : c.mg x = none) (hv : bootBuiltins x = some (.builtin id)) (h : De c env a m) (hn : x ≠ "__name__") (hdb : (x == ("__debug__" : Str)) = false)
    (hs : ∀ env, starEach [a] env = (false, eval a env) :: starEach [] env) : De c env (.Call (.Name x p) [a] [] pos) (m.bind f) := by
  obtain ⟨t, h1, h2⟩ := h
  refine ⟨_, fun X F => pe_callB (hc X F) (fits_gl F hg) (by rw [F.mg]; exact hm) hv (pa_cons (h1 X F) pa_nil (hs _)) hn hdb (hs _) rfl, fun z hz B H σ E Q q => ?_⟩
  obtain ⟨y, ey, hz⟩ := bind_some hz
  exact h2 y ey B H σ E _ fun v B1 H1 k1 r1 => hr y z hz B1 H1 v k1.bh r1 Q fun w B2 H2 k2 r2 => q w B2 H2 (k1.trans k2) r2
theorem de_ty1 {x : Str} {T : String} {p pos : Pos} {r : List V → Hp → VK → Prop} {f : α → Option β} {m : Option α} (hc : ∀ X, Fits c X → CallR X (.type T) r)
    (hr : ∀ (y : α) (z : β), f y = some z → ∀ (B H : Hp) (v : V), Le B H → rep c.K B v y → ∀ Q : VK, (∀ w B' H', Grow B H B' H' → rep c.K B' w z → Q w H') → r [v] H Q)
    (hg : Gv c x) (hm : c.mg x = none) (hv : bootBuiltins x = some (.type T)) (h : De c env a m) (hn : x ≠ "__name__") (hdb : (x == ("__debug__" : Str)) = false)
    (hs : ∀ env, starEach [a] env = (false, eval a env) :: starEach [] env) : De c env (.Call (.Name x p) [a] [] pos) (m.bind f) := by
  obtain ⟨t, h1, h2⟩ := h
  refine ⟨_, fun X F => pe_callTy (hc X F) (fits_gl F hg) (by rw [F.mg]; exact hm) hv (pa_cons (h1 X F) pa_nil (hs _)) hn hdb (hs _) rfl, fun z hz B H σ E Q q => ?_⟩
  obtain ⟨y, ey, hz⟩ := bind_some hz
  exact h2 y ey B H σ E _ fun v B1 H1 k1 r1 => hr y z hz B1 H1 v k1.bh r1 Q fun w B2 H2 k2 r2 => q w B2 H2 (k1.trans k2) r2
theorem de_bL {x : Str} {id : String} {p pos : Pos} {r : List V → Hp → VK → Prop} {f : List α → Option β} {m : Option (List α)} (hc : ∀ X, Fits c X → CallR X (.builtin id) r)
    (hr : ∀ (y : List α) (z : β), f y = some z → ∀ (B H : Hp) (l : Addr) (vs : List V), Le B H → SqL c.K H l vs → Reps c.K B vs y → ∀ Q : VK, (∀ w B' H', Grow B H B' H' → rep c.K B' w z → Q w H') → r [.ref l] H Q)
    (hg : Gv c x) (hm : c.mg x = none) (hv : bootBuiltins x = some (.builtin id)) (h : DeL c env a m) (hn : x ≠ "__name__") (hdb : (x == ("__debug__" : Str)) = false)
    (hs : ∀ env, starEach [a] env = (false, eval a env) :: starEach [] env) : De c env (.Call (.Name x p) [a] [] pos) (m.bind f) := by
  obtain ⟨t, h1, h2⟩ := h
  refine ⟨_, fun X F => pe_callB (hc X F) (fits_gl F hg) (by rw [F.mg]; exact hm) hv (pa_cons (h1 X F) pa_nil (hs _)) hn hdb (hs _) rfl, fun z hz B H σ E Q q => ?_⟩
  obtain ⟨y, ey, hz⟩ := bind_some hz
  exact h2 y ey B H σ E _ fun l vs B1 H1 k1 s r1 => hr y z hz B1 H1 l vs k1.bh s r1 Q fun w B2 H2 k2 r2 => q w B2 H2 (k1.trans k2) r2
theorem de_lenL {p pos : Pos} {m : Option (List α)} (hm : c.mg "len" = none) (h : DeL c env a m) (hg : Gv c "len" := by rfl) (hs : ∀ env, starEach [a] env = (false, eval a env) :: starEach [] env := by intro _; rfl) :
    De c env (.Call (.Name "len" p) [a] [] pos) (m.bind fun xs => some (xs.length : Int)) :=
  de_bL (r := fun xs H Q => ∃ p ys, xs = [.ref p] ∧ (SqL c.K H p ys ∨ SqT c.K H p ys) ∧ Q (.int ys.length) H) (fun X F => by rw [← F.K]; exact call_len_seq)
    (fun y z hz B H l vs hB s r Q q => by
      cases hz
      refine ⟨l, vs, rfl, .inl s, ?_⟩
      rw [r.len]
      exact q _ B H (Grow.refl hB) rfl) hg hm PySem.boot_len h (by decide) (by decide) hs
theorem de_lenU {p pos : Pos} {m : Option (Tup α)} (hm : c.mg "len" = none) (h : De c env a m) (hg : Gv c "len" := by rfl) (hs : ∀ env, starEach [a] env = (false, eval a env) :: starEach [] env := by intro _; rfl) :
    De c env (.Call (.Name "len" p) [a] [] pos) (m.bind fun xs => some (xs.l.length : Int)) :=
  de_b1 (r := fun xs H Q => ∃ p ys, xs = [.ref p] ∧ (SqL c.K H p ys ∨ SqT c.K H p ys) ∧ Q (.int ys.length) H) (fun X F => by rw [← F.K]; exact call_len_seq)
    (fun y z hz B H v hB r Q q => by
      cases hz
      obtain ⟨l, vs, rfl, s, r⟩ := r
      refine ⟨l, vs, rfl, .inr (hB.t s), ?_⟩
      rw [r.len]
      exact q _ B H (Grow.refl hB) rfl) hg hm PySem.boot_len h (by decide) (by decide) hs
theorem de_lenS {p pos : Pos} {m : Option Str} (hm : c.mg "len" = none) (h : De c env a m) (hg : Gv c "len" := by rfl) (hs : ∀ env, starEach [a] env = (false, eval a env) :: starEach [] env := by intro _; rfl) :
    De c env (.Call (.Name "len" p) [a] [] pos) (m.bind fun z => if len1 z.length = true then some (z.length : Int) else none) :=
  de_b1 (fun X F => call_len_str)
    (fun y z hz B H v hB r Q q => by
      split at hz
      · rename_i hl
        cases hz
        cases r
        exact ⟨y, rfl, len1_ok hl, q _ B H (Grow.refl hB) rfl⟩
      · cases hz) hg hm PySem.boot_len h (by decide) (by decide) hs
theorem de_intI {p pos : Pos} {m : Option Int} (hm : c.mg "int" = none) (h : De c env a m) (hg : Gv c "int" := by rfl) (hs : ∀ env, starEach [a] env = (false, eval a env) :: starEach [] env := by intro _; rfl) :
    De c env (.Call (.Name "int" p) [a] [] pos) (m.bind fun i => some i) :=
  de_ty1 (fun X F => call_int1)
    (fun y z hz B H v hB r Q q => by
      cases hz
      cases r
      exact .inl ⟨y, rfl, q _ B H (Grow.refl hB) rfl⟩) hg hm (by decide +kernel) h (by decide) (by decide) hs
theorem de_intB {p pos : Pos} {m : Option Bool} (hm : c.mg "int" = none) (h : De c env a m) (hg : Gv c "int" := by rfl) (hs : ∀ env, starEach [a] env = (false, eval a env) :: starEach [] env := by intro _; rfl) :
    De c env (.Call (.Name "int" p) [a] [] pos) (m.bind fun k => some (if k then (1 : Int) else 0)) :=
  de_ty1 (fun X F => call_int1)
    (fun y z hz B H v hB r Q q => by
      cases hz
      cases r
      exact .inr ⟨y, rfl, q _ B H (Grow.refl hB) rfl⟩) hg hm (by decide +kernel) h (by decide) (by decide) hs
theorem reps_bl {K : PySem.W.Frag} {B : Hp} {vs : List V} {bs : List Bool} (h : Reps K B vs bs) : vs = bs.map V.bl := by
  induction h with
  | nil => rfl
  | cons r _ ih => rw [List.map_cons, ← ih]; cases r; rfl
theorem reps_int {K : PySem.W.Frag} {B : Hp} {vs : List V} {bs : List Int} (h : Reps K B vs bs) : vs = bs.map V.int := by
  induction h with
  | nil => rfl
  | cons r _ ih => rw [List.map_cons, ← ih]; cases r; rfl
theorem reps_str {K : PySem.W.Frag} {B : Hp} {vs : List V} {bs : List Str} (h : Reps K B vs bs) : vs = bs.map V.str := by
  induction h with
  | nil => rfl
  | cons r _ ih => rw [List.map_cons, ← ih]; cases r; rfl
theorem de_all {p pos : Pos} {m : Option (List Bool)} (hm : c.mg "all" = none) (h : DeL c env a m) (hg : Gv c "all" := by rfl) (hs : ∀ env, starEach [a] env = (false, eval a env) :: starEach [] env := by intro _; rfl) :
    De c env (.Call (.Name "all" p) [a] [] pos) (m.bind fun bs => some (bs.all id)) :=
  de_bL (r := rAll c.K) (fun X F => by rw [← F.K]; exact cr_all F.calm)
    (fun y z hz B H l vs hB s r Q q => by
      cases hz
      have e := reps_bl r
      subst e
      exact ⟨l, y, rfl, s, q _ B H (Grow.refl hB) rfl⟩) hg hm (by decide +kernel) h (by decide) (by decide) hs
theorem de_sumL {p pos : Pos} {m : Option (List Int)} (hm : c.mg "sum" = none) (h : DeL c env a m) (hg : Gv c "sum" := by rfl) (hs : ∀ env, starEach [a] env = (false, eval a env) :: starEach [] env := by intro _; rfl) :
    De c env (.Call (.Name "sum" p) [a] [] pos) (m.bind fun xs => some xs.sum) :=
  de_bL (r := rSum c.K) (fun X F => by rw [← F.K]; exact cr_sum F.calm)
    (fun y z hz B H l vs hB s r Q q => by
      cases hz
      have e := reps_int r
      subst e
      exact ⟨l, y, rfl, s, q _ B H (Grow.refl hB) rfl⟩) hg hm (by decide +kernel) h (by decide) (by decide) hs
theorem dn_list {p pos : Pos} {m : Option (List α)} (hm : c.mg "list" = none) (h : DeL c env a m) (hg : Gv c "list" := by rfl) (hs : ∀ env, starEach [a] env = (false, eval a env) :: starEach [] env := by intro _; rfl) :
    DeN c env (.Call (.Name "list" p) [a] [] pos) m := by
  obtain ⟨t, h1, h2⟩ := h
  refine ⟨tCB (fun xs H Q => ∃ p ys, xs = [.ref p] ∧ (SqL c.K H p ys ∨ SqT c.K H p ys) ∧ ∀ l, H l = none → Q (.ref l) (upd H l (.lst ys))) (tCons t tNil),
    fun X F => pe_callTy (by rw [← F.K]; exact call_list_of) (fits_gl F hg) (by rw [F.mg]; exact hm) (by decide +kernel) (pa_cons (h1 X F) pa_nil (hs _)) (by decide) (by decide) (hs _) rfl, fun z hz B H σ E Q q => ?_⟩
  exact h2 z hz B H σ E _ fun l vs B1 H1 k1 s r => ⟨l, vs, rfl, .inl s, fun n hn => q n _ B1 _ (k1.none hn) (k1.trans (Grow.free k1.bh hn)) (k1.bh.none hn) upd_same ⟨vs, rfl, r⟩⟩
theorem de_tupOf {p pos : Pos} {m : Option (List α)} (hm : c.mg "tuple" = none) (h : DeL c env a m) (hg : Gv c "tuple" := by rfl) (hs : ∀ env, starEach [a] env = (false, eval a env) :: starEach [] env := by intro _; rfl) :
    De c env (.Call (.Name "tuple" p) [a] [] pos) (m.map Tup.mk) := by
  obtain ⟨t, h1, h2⟩ := h
  refine ⟨tThen t (kTup c.K), fun X F => by rw [← F.K]; exact pe_tupleOf (fits_gl F hg) (by rw [F.mg]; exact hm) (h1 X F) (hs _), fun z hz B H σ E Q q => ?_⟩
  cases m with
  | none => cases hz
  | some x =>
    cases hz
    exact h2 x rfl B H σ E _ fun l vs B1 H1 k1 s r => .inl ⟨l, vs, rfl, s, fun n hn => q (.ref n) _ _ (k1.trans (Grow.new k1.bh hn)) ⟨n, vs, rfl, SqT.of upd_same, r.mono (Le.put (k1.bh.none hn))⟩⟩
theorem de_lenSet {p p2 q0 pos : Pos} {m : Option (List Str)} (hm : c.mg "len" = none) (hm2 : c.mg "set" = none) (h : DeL c env a m) (hg : Gv c "len" := by rfl) (hg2 : Gv c "set" := by rfl) (hs : ∀ env, starEach [a] env = (false, eval a env) :: starEach [] env := by intro _; rfl) :
    De c env (.Call (.Name "len" p) [.Call (.Name "set" p2) [a] [] q0] [] pos) (m.bind fun xs => if xs.length ≤ 4000 then some ((uniq xs).length : Int) else none) := by
  obtain ⟨t, h1, h2⟩ := h
  refine ⟨tLenUniq c.K t, fun X F => by rw [← F.K]; exact pe_lenUniq (fits_gl F hg) (by rw [F.mg]; exact hm) (fits_gl F hg2) (by rw [F.mg]; exact hm2) (h1 X F) F.calm (hs _), fun z hz B H σ E Q q => ?_⟩
  obtain ⟨y, ey, hz⟩ := bind_some hz
  split at hz
  · rename_i hl
    cases hz
    exact h2 y ey B H σ E _ fun l vs B1 H1 k1 s r => by
      have e := reps_str r
      subst e
      exact ⟨l, y, rfl, s, hl, q _ B1 H1 k1 rfl⟩
  · cases hz
end
end Dn

set_option Elab.async false
set_option linter.all false
set_option maxRecDepth 100000
namespace Dn
open PySem L2
open Rep (rep)
open ORep (orep)

def cE (c : Ct) (e : Expr) : TE := fun σ H Q => ∀ X, Fits c X → ∀ pins s, Inv X pins σ H s → wpAny (model X.prog X.w) X.A (eval e X.env) (EP X pins σ Q) X.xe s
theorem cE_pe {c : Ct} {e : Expr} : ∀ X, Fits c X → PE X e (cE c e) := fun X F => ⟨fun pins s σ H Q I h => h X F pins s I⟩
theorem cE_of {c : Ct} {e : Expr} {t : TE} (h : ∀ X, Fits c X → PE X e t) {σ : St} {H : Hp} {Q : VK} (q : t σ H Q) : cE c e σ H Q := fun X F pins s I => (h X F).run pins s σ H Q I q
def cT (c : Ct) (e : Expr) : TT := fun σ H Q => ∀ X, Fits c X → ∀ pins s, Inv X pins σ H s → wpAny (model X.prog X.w) X.A (isTrue e X.env (eval e X.env)) (TP X pins σ Q) X.xe s
theorem cT_pt {c : Ct} {e : Expr} : ∀ X, Fits c X → PT X e (cT c e) := fun X F => ⟨fun pins s σ H Q I h => h X F pins s I⟩
theorem cT_of {c : Ct} {e : Expr} {t : TT} (h : ∀ X, Fits c X → PT X e t) {σ : St} {H : Hp} {Q : Bool → Hp → Prop} (q : t σ H Q) : cT c e σ H Q := fun X F pins s I => (h X F).run pins s σ H Q I q
def cS (c : Ct) (b : List Stmt) : TS := fun D σ H => ∀ X, Fits c X → ∀ pins s, Inv X pins σ H s → wpAny (model X.prog X.w) X.A (execs b X.env) (SP X pins D) X.xe s
theorem cS_ps {c : Ct} {b : List Stmt} : ∀ X, Fits c X → PSs X b (cS c b) := fun X F => ⟨fun pins s σ H D I h => h X F pins s I⟩
theorem cS_of {c : Ct} {b : List Stmt} {t : TS} (h : ∀ X, Fits c X → PSs X b t) {D : Ends} {σ : St} {H : Hp} (q : t D σ H) : cS c b D σ H := fun X F pins s I => (h X F).run pins s σ H D I q

section
variable {c : Ct} {env : List Slot} {e a b d : Expr} {es : List Expr} {α β γ : Type} [Rep α] [Rep β] [Rep γ]
theorem De.can {m : Option α} (h : De c env e m) : ∀ x, m = some x → EvE c.K env (cE c e) x := fun x hx B H σ E Q q => by
  obtain ⟨t, h1, h2⟩ := h
  exact cE_of h1 (h2 x hx B H σ E Q q)
theorem DeT.can {m : Option Bool} (h : DeT c env e m) : ∀ x, m = some x → EvT c.K env (cT c e) x := fun x hx B H σ E Q q => by
  obtain ⟨t, h1, h2⟩ := h
  exact cT_of h1 (h2 x hx B H σ E Q q)

def DWalk (K : PySem.W.Frag) (B : Hp) (J : It) {α : Type} [Rep α] (xs : List α) : Prop :=
  ∃ (G : Hp → Prop) (Y : Nat → Hp → V → Hp → Prop), Walk J xs.length G Y ∧ (∀ H, Le B H → G H) ∧
    ∀ (i : Nat) (B1 H : Hp) (v : V) (H' : Hp), i < xs.length → Le B B1 → Le B1 H → Y i H v H' → ∃ B2 x, Grow B1 H B2 H' ∧ xs[i]? = some x ∧ rep K B2 v x
def DeIt (c : Ct) (env : List Slot) (e : Expr) {α : Type} [Rep α] (m : Option (List α)) : Prop :=
  ∃ wi, (∀ X, Fits c X → ∀ tg, PI X tg e wi) ∧ ∀ xs, m = some xs → ∀ (B H : Hp) (σ : St), Env c.K B H σ env → ∀ R : It → Hp → Prop, (∀ J B' H', Grow B H B' H' → DWalk c.K B' J xs → R J H') → wi σ H R
theorem di_list {m : Option (List α)} (h : De c env e m) : DeIt c env e m := by
  obtain ⟨t, h1, h2⟩ := h
  refine ⟨iList c.K t, fun X F tg => by rw [← F.K]; exact pi_list (h1 X F), fun xs hx B H σ E R q => ?_⟩
  refine h2 xs hx B H σ E _ fun v B1 H1 k1 r => ?_
  obtain ⟨p, vs, rfl, s, r⟩ := r
  refine ⟨p, rfl, ⟨vs, k1.bh.l s⟩, q _ B1 H1 k1 ⟨fun H => SqL c.K H p vs, YAt vs, by rw [← r.len]; exact walk_list, fun H l => l.l s, fun i B2 H v H' hi l1 l2 y => ?_⟩⟩
  obtain ⟨rfl, y⟩ := y
  obtain ⟨x, ex, rx⟩ := r.get y
  exact ⟨B2, x, Grow.refl l2, ex, Rep.mono l1 rx⟩
theorem di_tup {m : Option (Tup α)} (h : De c env e m) : DeIt c env e (m.map (·.l)) := by
  obtain ⟨t, h1, h2⟩ := h
  refine ⟨iTup c.K t, fun X F tg => by rw [← F.K]; exact pi_tup (h1 X F), fun xs hx B H σ E R q => ?_⟩
  cases m with
  | none => cases hx
  | some y =>
    cases hx
    refine h2 y rfl B H σ E _ fun v B1 H1 k1 r => ?_
    obtain ⟨p, vs, rfl, s, r⟩ := r
    refine ⟨p, rfl, ⟨vs, k1.bh.t s⟩, q _ B1 H1 k1 ⟨fun H => SqT c.K H p vs, YAt vs, by rw [← r.len]; exact walk_tup, fun H l => l.t s, fun i B2 H v H' hi l1 l2 y => ?_⟩⟩
    obtain ⟨rfl, y⟩ := y
    obtain ⟨x, ex, rx⟩ := r.get y
    exact ⟨B2, x, Grow.refl l2, ex, Rep.mono l1 rx⟩
def b62 (i : Int) : Bool := decide (-(2 ^ 62) ≤ i) && decide (i < 2 ^ 62)
def upto (lo : Int) (n : Nat) : List Int := (List.range n).map fun (i : Nat) => lo + (i : Int)
theorem upto_len (lo : Int) (n : Nat) : (upto lo n).length = n := by unfold upto; simp
theorem dwalk_range {K : PySem.W.Frag} {B : Hp} {lo : Int} {n : Nat} : DWalk K B (Itr lo n) (upto lo n) := by
  refine ⟨fun _ => True, _, by rw [upto_len]; exact walk_range, fun _ _ => trivial, fun i B1 H v H' hi l1 l2 y => ?_⟩
  obtain ⟨rfl, rfl⟩ := y
  rw [upto_len] at hi
  exact ⟨B1, lo + i, Grow.refl l2, by unfold upto; simp [hi], rfl⟩
def rangeI (j : Int) : Option (List Int) := if b62 j = true then some (upto 0 j.toNat) else none
def range2I (i j : Int) : Option (List Int) := if (b62 i && b62 j) = true then some (upto i (j - i).toNat) else none
theorem b62_of {i : Int} (h : b62 i = true) : -(2 ^ 62) ≤ i ∧ i < 2 ^ 62 := by
  unfold b62 at h
  simpa using h
theorem di_range {p pos : Pos} {m : Option Int} (hm : c.mg "range" = none) (h : De c env a m) (hg : Gv c "range" := by rfl) (hs : ∀ env, starEach [a] env = (false, eval a env) :: starEach [] env := by intro _; rfl) :
    DeIt c env (.Call (.Name "range" p) [a] [] pos) (m.bind rangeI) := by
  obtain ⟨t, h1, h2⟩ := h
  refine ⟨_, fun X F tg => pi_range1 (fits_gl F hg) (by rw [F.mg]; exact hm) (pa_cons (h1 X F) pa_nil (hs _)) (hs _), fun xs hx B H σ E R q => ?_⟩
  obtain ⟨j, ej, hx⟩ := bind_some hx
  unfold rangeI at hx
  split at hx
  · rename_i hb
    cases hx
    refine h2 j ej B H σ E _ fun v B1 H1 k1 r => ?_
    cases r
    exact ⟨j, rfl, (b62_of hb).1, (b62_of hb).2, q _ B1 H1 k1 dwalk_range⟩
  · cases hx
theorem di_range2 {p pos : Pos} {m n : Option Int} (hm : c.mg "range" = none) (h : De c env a m) (g : De c env b n) (hg : Gv c "range" := by rfl) (hs : ∀ env, starEach [a, b] env = [(false, eval a env), (false, eval b env)] := by intro _; rfl)
    (hs2 : ∀ env, starEach [b] env = [(false, eval b env)] := by intro _; rfl) :
    DeIt c env (.Call (.Name "range" p) [a, b] [] pos) (m.bind fun i => n.bind fun j => range2I i j) := by
  obtain ⟨t, h1, h2⟩ := h
  obtain ⟨u, g1, g2⟩ := g
  refine ⟨_, fun X F tg => pi_range2 (fits_gl F hg) (by rw [F.mg]; exact hm) (pa_cons (h1 X F) (pa_cons (g1 X F) pa_nil (hs2 _)) (by rw [hs, hs2])) (hs _) (hs2 _), fun xs hx B H σ E R q => ?_⟩
  obtain ⟨i, ei, hx⟩ := bind_some hx
  obtain ⟨j, ej, hx⟩ := bind_some hx
  unfold range2I at hx
  split at hx
  · rename_i hb
    cases hx
    rw [Bool.and_eq_true] at hb
    refine h2 i ei B H σ E _ fun v B1 H1 k1 r => g2 j ej B1 H1 σ (E.grow k1) _ fun w B2 H2 k2 r2 => ?_
    cases r
    cases r2
    exact ⟨i, j, rfl, ⟨(b62_of hb.1).1, (b62_of hb.1).2, (b62_of hb.2).1, (b62_of hb.2).2⟩, q _ B2 H2 (k1.trans k2) dwalk_range⟩
  · cases hx
def signs (z : Str) : List Str := z.cps.toList.map fun ch => (⟨#[ch]⟩ : Str)
theorem di_str {m : Option Str} (h : De c env e m) : DeIt c env e (m.map signs) := by
  obtain ⟨t, h1, h2⟩ := h
  refine ⟨_, fun X F tg => pi_str (h1 X F), fun xs hx B H σ E R q => ?_⟩
  cases m with
  | none => cases hx
  | some y =>
    cases hx
    refine h2 y rfl B H σ E _ fun v B1 H1 k1 r => ?_
    cases r
    refine ⟨y, rfl, q _ B1 H1 k1 ⟨fun _ => True, _, by rw [show (signs y).length = y.cps.size by unfold signs; simp]; exact walk_str, fun _ _ => trivial, fun i B2 H v H' hi l1 l2 yy => ?_⟩⟩
    obtain ⟨rfl, ch, e1, rfl⟩ := yy
    refine ⟨B2, ⟨#[ch]⟩, Grow.refl l2, ?_, rfl⟩
    unfold signs
    rw [List.getElem?_map, Array.getElem?_toList, e1]
    rfl
theorem Env.setV {K : PySem.W.Frag} {B H : Hp} {σ : St} {env : List Slot} (E : Env K B H σ env) (i : Nat) {v : V} {x : α} (r : rep K B v x) : Env K B H (σ.set i (some v)) (env.set i (.val x)) := by
  refine ⟨E.bh, by rw [List.length_set, List.length_set]; exact E.len, fun j s h => ?_, fun j k s t h1 h2 o1 o2 e => ?_⟩
  · by_cases q : i = j
    · subst q
      by_cases hl : i < env.length
      · rw [List.getElem?_set_self hl] at h
        cases h
        rw [List.getElem?_set_self (by rw [E.len]; exact hl)]
        exact ⟨v, rfl, r⟩
      · rw [List.getElem?_eq_none (by rw [List.length_set]; omega)] at h
        cases h
    · rw [List.getElem?_set_ne q] at h ⊢
      exact E.at_ j s h
  · have n1 : i ≠ j := fun q => by
      subst q
      by_cases hl : i < env.length
      · rw [List.getElem?_set_self hl] at h1
        cases h1
        cases o1
      · rw [List.getElem?_eq_none (by rw [List.length_set]; omega)] at h1
        cases h1
    have n2 : i ≠ k := fun q => by
      subst q
      by_cases hl : i < env.length
      · rw [List.getElem?_set_self hl] at h2
        cases h2
        cases o2
      · rw [List.getElem?_eq_none (by rw [List.length_set]; omega)] at h2
        cases h2
    rw [List.getElem?_set_ne n1] at h1
    rw [List.getElem?_set_ne n2] at h2
    rw [List.getElem?_set_ne n1, List.getElem?_set_ne n2] at e
    exact E.ap j k s t h1 h2 o1 o2 e
structure TgS (K : PySem.W.Frag) (g : TG) {α : Type} [Rep α] (f : α → List Slot → List Slot) (is : List Nat) : Prop where
  run : ∀ (x : α) (env : List Slot) (B H : Hp) (σ : St) (v : V), Env K B H σ env → rep K B v x → ∀ Q : St → Hp → Prop, (∀ σ', Env K B H σ' (f x env) → σ'.length = σ.length → (∀ i, i ∉ is → σ'[i]? = σ[i]? ∧ (f x env)[i]? = env[i]?) → (∀ i s, i ∈ is → (f x env)[i]? = some s → isOwn s = false ∧ isDeep s = false) → Q σ' H) → g v σ H Q
def DeTg (c : Ct) (tg : Expr) {α : Type} [Rep α] (f : α → List Slot → List Slot) (is : List Nat) : Prop := ∃ g, (∀ X, Fits c X → PG X tg g) ∧ TgS c.K g f is
theorem dg_name (i : Nat) {x : Str} {pos : Pos} (nd : c.N.Nodup) (hN : c.N[i]? = some x) (hx : Loc c.sc x) (hf : c.fn x = true ∨ c.sc.names.lookup x = some .local) : DeTg c (.Name x pos) (fun (x : α) env => env.set i (.val x)) [i] := by
  refine ⟨gName i, fun X F => pg_name (by rw [F.N]; exact nd) (fits_ix F hN) (fits_loc F hx) (by rw [F.fn, F.sc]; exact hf), ⟨fun x env B H σ v E r Q q => ?_⟩⟩
  refine q _ (E.setV i r) (List.length_set ..) (fun j hj => ?_) fun j s hj hs => ?_
  · have n : i ≠ j := fun z => hj (by rw [z]; exact List.mem_singleton_self _)
    exact ⟨List.getElem?_set_ne n, List.getElem?_set_ne n⟩
  · have e : j = i := by simpa using hj
    subst e
    by_cases hl : j < env.length
    · rw [List.getElem?_set_self hl] at hs
      cases hs
      exact ⟨rfl, rfl⟩
    · rw [List.getElem?_eq_none (by rw [List.length_set]; omega)] at hs
      cases hs
theorem dg_pair {t1 t2 : Expr} {pos : Pos} {k : Nat} {f : α → List Slot → List Slot} {g : β → List Slot → List Slot} {is js : List Nat} (h : DeTg c t1 f is) (h' : DeTg c t2 g js)
    (hs : ∀ env, (assignEach [t1, t2] env).map (·.2) = assign t1 env :: (assignEach [t2] env).map (·.2) := by intro _; rfl) (hs2 : ∀ env, (assignEach [t2] env).map (·.2) = assign t2 env :: (assignEach [] env).map (·.2) := by intro _; rfl)
    (hn : ∀ env, (assignEach [t1, t2] env).length = 2 := by intro _; rfl) (hst : ∀ env, (assignEach [t1, t2] env).findIdx? (·.1) = none := by intro _; rfl) :
    DeTg c (.Tuple [t1, t2] k pos) (fun (x : α × β) env => g x.2 (f x.1 env)) (is ++ js) := by
  obtain ⟨u, h1, h2⟩ := h
  obtain ⟨w, g1, g2⟩ := h'
  refine ⟨gTup c.K 2 (gCons u (gCons w gNil)), fun X F => by rw [← F.K]; exact pg_tup F.calm (pgs_cons (h1 X F) (pgs_cons (g1 X F) pgs_nil (hs2 _)) (hs _)) (hn _) (hst _), ⟨fun x env B H σ v E r Q q => ?_⟩⟩
  obtain ⟨p, v1, v2, rfl, s, r1, r2⟩ := r
  refine ⟨p, [v1, v2], rfl, E.bh.t s, rfl, v1, [v2], rfl, ?_⟩
  refine h2.run x.1 env B H σ v1 E r1 _ fun σ1 E1 l1 k1 o1 => ⟨v2, [], rfl, ?_⟩
  refine g2.run x.2 _ B H σ1 v2 E1 r2 _ fun σ2 E2 l2 k2 o2 => ⟨rfl, q σ2 E2 (l2.trans l1) (fun i hi => ?_) fun i s hi hs => ?_⟩
  · have n1 : i ∉ is := fun z => hi (List.mem_append_left _ z)
    have n2 : i ∉ js := fun z => hi (List.mem_append_right _ z)
    exact ⟨(k2 i n2).1.trans (k1 i n1).1, (k2 i n2).2.trans (k1 i n1).2⟩
  · by_cases z : i ∈ js
    · exact o2 i s z hs
    · rw [(k2 i z).2] at hs
      exact o1 i s ((List.mem_append.mp hi).resolve_right z) hs
end
end Dn

set_option Elab.async false
set_option linter.all false
set_option maxRecDepth 100000
namespace Dn
open PySem L2
open Rep (rep)
open ORep (orep)

def wipeE (env : List Slot) : List Nat → List Slot
  | [] => env
  | v :: vs => (wipeE env vs).set v .any
theorem wipe_get (σ : St) : ∀ (vs : List Nat) (i : Nat), (wipe σ vs)[i]? = if i ∈ vs then σ[i]?.map fun _ => none else σ[i]?
  | [], i => by simp [wipe]
  | v :: vs, i => by
    unfold wipe
    by_cases h : v = i
    · subst h
      rw [if_pos (List.mem_cons_self ..)]
      by_cases hl : v < σ.length
      · rw [List.getElem?_set_self (by rw [wipe_length]; exact hl), List.getElem?_eq_getElem hl]
        rfl
      · rw [List.getElem?_eq_none (by rw [List.length_set, wipe_length]; omega), List.getElem?_eq_none (by omega)]
        rfl
    · rw [List.getElem?_set_ne h, wipe_get σ vs i]
      by_cases q : i ∈ vs
      · rw [if_pos q, if_pos (List.mem_cons_of_mem _ q)]
      · rw [if_neg q, if_neg fun z => (List.mem_cons.mp z).elim (fun k => h k.symm) q]
theorem wipeE_len (env : List Slot) : ∀ vs : List Nat, (wipeE env vs).length = env.length
  | [] => rfl
  | v :: vs => by unfold wipeE; rw [List.length_set, wipeE_len env vs]
theorem wipeE_get {env : List Slot} : ∀ {vs : List Nat} {i : Nat} {s : Slot}, (wipeE env vs)[i]? = some s → s = .any ∨ (i ∉ vs ∧ env[i]? = some s)
  | [], i, s, h => .inr ⟨by simp, h⟩
  | v :: vs, i, s, h => by
    unfold wipeE at h
    by_cases q : v = i
    · subst q
      by_cases hl : v < (wipeE env vs).length
      · rw [List.getElem?_set_self hl] at h
        cases h
        exact .inl rfl
      · rw [List.getElem?_eq_none (by rw [List.length_set]; omega)] at h
        cases h
    · rw [List.getElem?_set_ne q] at h
      rcases wipeE_get h with e | ⟨e1, e2⟩
      · exact .inl e
      · exact .inr ⟨by rw [List.mem_cons]; exact fun z => z.elim (fun z => q z.symm) e1, e2⟩
theorem Env.wipe {K : PySem.W.Frag} {B H : Hp} {σ : St} {env : List Slot} (E : Env K B H σ env) (vs : List Nat) : Env K B H (wipe σ vs) (wipeE env vs) := by
  have key : ∀ (i : Nat) (s : Slot), (wipeE env vs)[i]? = some s → isOwn s = true → (L2.wipe σ vs)[i]? = σ[i]? ∧ env[i]? = some s := fun i s h o => by
    rcases wipeE_get h with rfl | ⟨h1, h2⟩
    · cases o
    · rw [wipe_get, if_neg h1]
      exact ⟨rfl, h2⟩
  refine ⟨E.bh, by rw [wipe_length, wipeE_len]; exact E.len, fun i s h => ?_, fun i j s t h1 h2 o1 o2 e => ?_⟩
  · rcases wipeE_get h with rfl | ⟨h1, h2⟩
    · trivial
    · rw [wipe_get, if_neg h1]
      exact E.at_ i s h2
  · obtain ⟨a1, a2⟩ := key i s h1 o1
    obtain ⟨b1, b2⟩ := key j t h2 o2
    rw [a1, b1] at e
    exact E.ap i j s t a2 b2 o1 o2 e
theorem wipe_same {σ σ' : St} {vs is : List Nat} (h : σ'.length = σ.length) (k : ∀ i, i ∉ is → σ'[i]? = (wipe σ vs)[i]?) (sub : ∀ i ∈ is, i ∈ vs) : wipe σ' vs = wipe σ vs := by
  refine List.ext_getElem? fun i => ?_
  rw [wipe_get, wipe_get]
  by_cases q : i ∈ vs
  · rw [if_pos q, if_pos q]
    by_cases hl : i < σ.length
    · rw [List.getElem?_eq_getElem hl, List.getElem?_eq_getElem (by rw [h]; exact hl)]
      rfl
    · rw [List.getElem?_eq_none (by omega), List.getElem?_eq_none (by omega)]
  · rw [if_neg q, if_neg q]
    have e := k i fun z => q (sub i z)
    rw [wipe_get, if_neg q] at e
    exact e
section
variable {α γ : Type}
def compO (h : α → Option (Option γ)) : List α → Option (List γ)
  | [] => some []
  | x :: xs => (h x).bind fun o => (compO h xs).bind fun ys => some (match o with | none => ys | some y => y :: ys)
theorem compO_snoc (h : α → Option (Option γ)) (x : α) : ∀ xs : List α, compO h (xs ++ [x]) = (compO h xs).bind fun ys => (h x).bind fun o => some (match o with | none => ys | some y => ys ++ [y])
  | [] => by
    show (h x).bind _ = (h x).bind _
    cases h x with
    | none => rfl
    | some o => cases o <;> rfl
  | z :: zs => by
    show (h z).bind _ = ((h z).bind _).bind _
    cases h z with
    | none => rfl
    | some o =>
      show (compO h (zs ++ [x])).bind _ = ((compO h zs).bind _).bind _
      rw [compO_snoc h x zs]
      cases compO h zs with
      | none => rfl
      | some ys =>
        show ((h x).bind _).bind _ = (h x).bind _
        cases h x with
        | none => rfl
        | some o' => cases o <;> cases o' <;> rfl
theorem compO_len {h : α → Option (Option γ)} : ∀ {xs : List α} {ys : List γ}, compO h xs = some ys → ys.length ≤ xs.length
  | [], ys, e => by cases e; exact Nat.le_refl _
  | x :: xs, ys, e => by
    obtain ⟨o, _, e⟩ := bind_some e
    obtain ⟨zs, e1, e⟩ := bind_some e
    have ih := compO_len e1
    cases o with
    | none => cases e; exact Nat.le_succ_of_le ih
    | some y => cases e; exact Nat.succ_le_succ ih
theorem compO_take {h : α → Option (Option γ)} {xs : List α} {ys : List γ} (e : compO h xs = some ys) : ∀ i, ∃ zs, compO h (xs.take i) = some zs := by
  intro i
  induction xs generalizing ys i with
  | nil => exact ⟨[], by simp [compO]⟩
  | cons x xs ih =>
    cases i with
    | zero => exact ⟨[], rfl⟩
    | succ i =>
      obtain ⟨o, e1, e⟩ := bind_some e
      obtain ⟨ws, e2, e⟩ := bind_some e
      obtain ⟨zs, ez⟩ := ih e2 i
      show ∃ zs, (h x).bind _ = some zs
      rw [e1]
      show ∃ zs, (compO h (xs.take i)).bind _ = some zs
      rw [ez]
      exact ⟨_, rfl⟩
def mapO (h : α → Option γ) : List α → Option (List γ)
  | [] => some []
  | x :: xs => (h x).bind fun y => (mapO h xs).bind fun ys => some (y :: ys)
theorem mapO_comp (h : α → Option γ) : ∀ xs : List α, compO (fun x => (h x).map some) xs = mapO h xs
  | [] => rfl
  | x :: xs => by
    show ((h x).map some).bind _ = (h x).bind _
    cases h x with
    | none => rfl
    | some y =>
      show (compO _ xs).bind _ = (mapO h xs).bind _
      rw [mapO_comp h xs]
end
section
variable {c : Ct} {env : List Slot} {e a b d elt iter tg : Expr} {es : List Expr} {α β γ : Type} [Rep α] [Rep β] [Rep γ]
theorem ev_comp {K : PySem.W.Frag} {wi : TI} {g : TG} {tt : TT} {te : TE} {vs is : List Nat} {f : α → List Slot → List Slot} {xs : List α} {ys : List γ} {h : α → Option (Option γ)}
    (hi : ∀ (B H : Hp) (σ : St), Env K B H σ env → ∀ R : It → Hp → Prop, (∀ J B' H', Grow B H B' H' → DWalk K B' J xs → R J H') → wi σ H R) (hg : TgS K g f is) (sub : ∀ i ∈ is, i ∈ vs)
    (ht : ∀ x o, h x = some o → EvT K (f x (wipeE env vs)) tt o.isSome) (he : ∀ x y, h x = some (some y) → EvE K (f x (wipeE env vs)) te y) (hl : xs.length ≤ 100000) (hz : compO h xs = some ys) :
    EvN K env (tLc wi g tt te vs) ys := by
  intro B H σ E Q q
  refine hi B H σ E _ fun J B1 H1 k1 ⟨G, Y, W, hG, hY⟩ D hD => ?_
  have nB1 : B1 D = none := k1.bh.none hD
  have E1 := (E.grow k1).wipe vs
  refine lc_it W (fun i H2 => ∃ B2 acc zs, Grow B1 H1 B2 H2 ∧ B2 D = none ∧ H2 D = some (.lst acc) ∧ compO h (xs.take i) = some zs ∧ Reps K B2 acc zs)
    ⟨B1, [], [], Grow.free k1.bh hD, nB1, upd_same, rfl, .nil⟩ (fun i H2 _ ⟨B2, acc, zs, g2, _⟩ => hG H2 (g2.b.trans g2.bh)) (fun i v H2 H3 hi ⟨B2, acc, zs, g2, n2, eD, ez, r⟩ y => ?_) fun H2 ⟨B2, acc, zs, g2, n2, eD, ez, r⟩ => ?_
  · obtain ⟨B3, x, g3, ex, rx⟩ := hY i B2 H2 v H3 hi g2.b g2.bh y
    have eD3 := g3.h D _ eD
    have n3 : B3 D = none := g3.f D n2 (by rw [eD]; exact fun z => nomatch z)
    have tk : xs.take (i + 1) = xs.take i ++ [x] := by rw [List.take_add_one, ex]; rfl
    obtain ⟨zs', ez'⟩ := compO_take hz (i + 1)
    rw [tk, compO_snoc, ez] at ez'
    obtain ⟨o, eo, ez'⟩ := bind_some (m := h x) ez'
    have g13 := g2.trans g3
    refine hg.run x _ B3 H3 _ v (E1.grow g13) rx _ fun σ' E' l' k' o' => ⟨wipe_same (l'.trans (wipe_length ..)) (fun i hi => (k' i hi).1) sub, ?_⟩
    refine ht x o eo B3 H3 σ' E' _ fun B4 H4 g4 => ?_
    have eD4 := g4.h D _ eD3
    have n4 : B4 D = none := g4.f D n3 (by rw [eD3]; exact fun z => nomatch z)
    cases o with
    | none =>
      show ∃ _ _ _, _
      cases ez'
      refine ⟨B4, acc, zs, g13.trans g4, n4, eD4, ?_, r.mono (g3.b.trans g4.b)⟩
      rw [tk, compO_snoc, ez]
      show (h x).bind _ = _
      rw [eo]
      rfl
    | some y0 =>
      refine iteT (he x y0 eo B4 H4 σ' (E'.grow g4) _ fun w B5 H5 g5 rw5 => ?_)
      have eD5 := g5.h D _ eD4
      have n5 : B5 D = none := g5.f D n4 (by rw [eD4]; exact fun z => nomatch z)
      have la : acc.length < 100001 := by
        rw [r.len]
        have := compO_len ez
        rw [List.length_take] at this
        omega
      refine ⟨acc, eD5, Nat.lt_of_lt_of_le la (by decide), B5, acc ++ [w], zs ++ [y0], ?_, n5, upd_same, ?_, (r.mono ((g3.b.trans g4.b).trans g5.b)).append (.cons rw5 .nil)⟩
      · have g := (g13.trans g4).trans g5
        refine ⟨g.b, fun a u z => ?_, fun a u z => ?_, g.f⟩
        · rw [upd_ne (fun k => by rw [k, n5] at z; cases z)]
          exact g.bh a u z
        · rw [upd_ne (fun k => by rw [k, hD] at z; cases z)]
          exact g.h a u z
      · rw [tk, compO_snoc, ez]
        show (h x).bind _ = _
        rw [eo]
        rfl
  · rw [List.take_length, hz] at ez
    cases ez
    exact q D _ B2 H2 (k1.none hD) (k1.trans g2) n2 eD ⟨acc, rfl, r⟩
def capI {α : Type} (xs : List α) : Option (List α) := if len1 xs.length = true then some xs else none
theorem dn_comp {scope : Scope} {own : List (Str × Nat)} {pos : Pos} {is : List Nat} {f : α → List Slot → List Slot} {m : Option (List α)} {h : α → Option γ} (nd : c.N.Nodup) (hi : DeIt c env iter m) (ok : BlkOk c.N c.sc scope own) (hg : DeTg (c.blk scope) tg f is) (sub : ∀ i ∈ is, i ∈ own.map (·.2))
    (he : ∀ x, De (c.blk scope) (f x (wipeE env (own.map (·.2)))) elt (h x)) (hs : ∀ env x, foldedSetIterable iter env x = pure x := by intro _ _; rfl) :
    DeN c env (.ListComp elt [⟨tg, iter, [], 0⟩] scope pos) (m.bind fun xs => (capI xs).bind fun xs => mapO h xs) := by
  obtain ⟨wi, i1, i2⟩ := hi
  obtain ⟨g, g1, g2⟩ := hg
  refine ⟨_, fun X F => pe_lc F.calm (by rw [F.N]; exact nd) (i1 X F tg) (by rw [F.N, F.sc]; exact ok) (fun s H C cl fp => g1 _ (F.blk s H scope C cl fp)) (fun s H C cl fp => pts_nil) (fun s H C cl fp => cE_pe _ (F.blk s H scope C cl fp)) (hs _), fun z hz => ?_⟩
  obtain ⟨xs, ex, hz⟩ := bind_some hz
  obtain ⟨xs', hc, hz⟩ := bind_some hz
  unfold capI at hc
  split at hc
  · rename_i hl
    cases hc
    rw [← mapO_comp] at hz
    refine ev_comp (i2 xs ex) g2 sub (fun x o eo B H σ E Q q => ?_) (fun x y ey => (he x).can y ?_) (of_decide_eq_true hl) hz
    · cases o with
      | none =>
        cases g : h x with
        | none => rw [g] at eo; cases eo
        | some y => rw [g] at eo; cases eo
      | some y => exact q B H (Grow.refl E.bh)
    · cases g : h x with
      | none => rw [g] at ey; cases ey
      | some y' => rw [g] at ey; cases ey; rfl
  · cases hc
end
end Dn

set_option Elab.async false
set_option linter.all false
set_option maxRecDepth 100000
namespace Dn
open PySem L2
open Rep (rep)
open ORep (orep)

inductive Fl (S L R : Type) where
  | err | nx (s : S) | rt (r : R) | bk (s : L) | ct (s : L)
namespace Fl
variable {S T L M R α : Type}
def bindO (m : Option α) (k : α → Fl S L R) : Fl S L R := match m with
  | none => .err
  | some x => k x
def bind (m : Fl T L R) (k : T → Fl S L R) : Fl S L R := match m with
  | .err => .err
  | .nx s => k s
  | .rt r => .rt r
  | .bk s => .bk s
  | .ct s => .ct s
def loop (f : α → S → Fl S S R) : List α → S → Fl S L R
  | [], s => .nx s
  | x :: xs, s => match f x s with
    | .err => .err
    | .nx s' => loop f xs s'
    | .ct s' => loop f xs s'
    | .bk s' => .nx s'
    | .rt r => .rt r
def fin (en : Option R) (m : Fl S L R) : Option R := match m with
  | .rt r => some r
  | .nx _ => en
  | _ => none
end Fl

section
def DeepOk (K : PySem.W.Frag) (H0 B H : Hp) (σ : St) (env : List Slot) (i : Nat) (ψ : PySem.W.Frag → Hp → Hp → Addr → List Addr → Prop) : Prop :=
  ∃ a cs, σ[i]? = some (some (.ref a)) ∧ (∀ c ∈ cs, ¬ H c = none ∧ B c = none ∧ H0 c = none) ∧ (∀ (j : Nat) (s : Slot) (c : Addr), env[j]? = some s → isOwn s = true → σ[j]? = some (some (.ref c)) → c ∉ cs) ∧ ψ K B H a cs
structure StOk (K : PySem.W.Frag) (B0 H0 B H : Hp) (σ : St) (env : List Slot) : Prop where
  en : Env K B H σ env
  g : Grow B0 H0 B H
  nw : ∀ (i : Nat) (s : Slot) (a : Addr), env[i]? = some s → isOwn s = true → σ[i]? = some (some (.ref a)) → H0 a = none
  rd : ∀ (i : Nat) ψ hm, env[i]? = some (.deep ψ hm) → DeepOk K H0 B H σ env i ψ
variable {K : PySem.W.Frag} {B0 H0 B H B' H' : Hp} {σ : St} {env env' : List Slot} {α β γ : Type} [Rep α] [Rep β] [Rep γ]
theorem DeepOk.grow {ψ : PySem.W.Frag → Hp → Hp → Addr → List Addr → Prop} (hm : ∀ K B B' H H' a cs, Le B B' → (∀ c ∈ cs, H' c = H c) → ψ K B H a cs → ψ K B' H' a cs) {i : Nat} (h : DeepOk K H0 B H σ env i ψ) (g : Grow B H B' H') : DeepOk K H0 B' H' σ env i ψ := by
  obtain ⟨a, cs, e1, e2, e3, e4⟩ := h
  have same : ∀ c ∈ cs, H' c = H c := fun c hc => by
    cases z : H c with
    | none => exact absurd z (e2 c hc).1
    | some o => exact g.h c o z
  exact ⟨a, cs, e1, fun c hc => ⟨by rw [same c hc]; exact (e2 c hc).1, g.f c (e2 c hc).2.1 (e2 c hc).1, (e2 c hc).2.2⟩, e3, hm _ _ _ _ _ _ _ g.b same e4⟩
theorem StOk.grow (S : StOk K B0 H0 B H σ env) (g : Grow B H B' H') : StOk K B0 H0 B' H' σ env := ⟨S.en.grow g, S.g.trans g, S.nw, fun i ψ hm h => (S.rd i ψ hm h).grow hm g⟩
theorem DeepOk.other {ψ : PySem.W.Frag → Hp → Hp → Addr → List Addr → Prop} {i k : Nat} {v : Option V} {s : Slot} (ik : i ≠ k) (h : DeepOk K H0 B H σ env k ψ) (n : ∀ c, isOwn s = true → v = some (.ref c) → H c = none ∨ ∃ s', env[i]? = some s' ∧ isOwn s' = true ∧ σ[i]? = some (some (.ref c))) : DeepOk K H0 B H (σ.set i v) (env.set i s) k ψ := by
  obtain ⟨a, cs, e1, e2, e3, e4⟩ := h
  refine ⟨a, cs, by rw [List.getElem?_set_ne ik]; exact e1, e2, fun j t c h1 h2 h3 m => ?_, e4⟩
  by_cases q : i = j
  · subst q
    have hs : t = s := by
      by_cases hl : i < env.length
      · rw [List.getElem?_set_self hl] at h1
        exact (Option.some.inj h1).symm
      · rw [List.getElem?_eq_none (by rw [List.length_set]; omega)] at h1
        cases h1
    subst hs
    have hv : v = some (.ref c) := by
      by_cases hl : i < σ.length
      · rw [List.getElem?_set_self hl] at h3
        exact Option.some.inj h3
      · rw [List.getElem?_eq_none (by rw [List.length_set]; omega)] at h3
        cases h3
    rcases n c h2 hv with z | ⟨s', g1, g2, g3⟩
    · exact (e2 c m).1 z
    · exact e3 i s' c g1 g2 g3 m
  · rw [List.getElem?_set_ne q] at h1 h3
    exact e3 j t c h1 h2 h3 m
theorem deep_set {i k : Nat} {s : Slot} {ψ : PySem.W.Frag → Hp → Hp → Addr → List Addr → Prop} {hm} (nd : ∀ ψ hm, s ≠ .deep ψ hm) (h : (env.set i s)[k]? = some (.deep ψ hm)) : i ≠ k ∧ env[k]? = some (.deep ψ hm) := by
  by_cases q : i = k
  · subst q
    by_cases hl : i < env.length
    · rw [List.getElem?_set_self hl] at h
      exact absurd (Option.some.inj h) (nd ψ hm)
    · rw [List.getElem?_eq_none (by rw [List.length_set]; omega)] at h
      cases h
  · rw [List.getElem?_set_ne q] at h
    exact ⟨q, h⟩
inductive Wk : List Slot → List Slot → Prop where
  | nil : Wk [] []
  | same {s : Slot} {l l' : List Slot} : Wk l l' → Wk (s :: l) (s :: l')
  | any {s : Slot} {l l' : List Slot} : Wk l l' → Wk (s :: l) (.any :: l')
theorem Wk.refl : ∀ l : List Slot, Wk l l
  | [] => .nil
  | _ :: l => .same (Wk.refl l)
theorem Wk.len {l l' : List Slot} (w : Wk l l') : l.length = l'.length := by
  induction w with
  | nil => rfl
  | same _ ih => rw [List.length_cons, List.length_cons, ih]
  | any _ ih => rw [List.length_cons, List.length_cons, ih]
theorem Wk.get {l l' : List Slot} (w : Wk l l') : ∀ {i : Nat} {s : Slot}, l'[i]? = some s → s = .any ∨ l[i]? = some s := by
  induction w with
  | nil => intro i s h; exact .inr h
  | same _ ih =>
    intro i s h
    cases i with
    | zero => exact .inr h
    | succ i => exact ih h
  | any _ ih =>
    intro i s h
    cases i with
    | zero =>
      simp at h
      exact .inl h.symm
    | succ i => exact ih h
theorem Env.wk (E : Env K B H σ env) (w : Wk env env') : Env K B H σ env' := by
  refine ⟨E.bh, E.len.trans w.len, fun i s h => ?_, fun i j s t h1 h2 o1 o2 e => ?_⟩
  · rcases w.get h with rfl | h
    · trivial
    · exact E.at_ i s h
  · rcases w.get h1 with rfl | h1
    · cases o1
    · rcases w.get h2 with rfl | h2
      · cases o2
      · exact E.ap i j s t h1 h2 o1 o2 e
theorem StOk.wk (S : StOk K B0 H0 B H σ env) (w : Wk env env') : StOk K B0 H0 B H σ env' := ⟨S.en.wk w, S.g, fun i s a h o e => by
  rcases w.get h with rfl | h
  · cases o
  · exact S.nw i s a h o e, fun i ψ hm h => by
  rcases w.get h with z | h
  · cases z
  · obtain ⟨a, cs, e1, e2, e3, e4⟩ := S.rd i ψ hm h
    refine ⟨a, cs, e1, e2, fun j s c h1 h2 h3 => ?_, e4⟩
    rcases w.get h1 with rfl | h1
    · cases h2
    · exact e3 j s c h1 h2 h3⟩
theorem StOk.retarget (O : StOk K B0 H0 B H σ env) {σ' : St} {is : List Nat} (E' : Env K B H σ' env') (kp : ∀ i, i ∉ is → σ'[i]? = σ[i]? ∧ env'[i]? = env[i]?) (no : ∀ i s, i ∈ is → env'[i]? = some s → isOwn s = false ∧ isDeep s = false) : StOk K B0 H0 B H σ' env' := by
  have back : ∀ (j : Nat) (s : Slot), env'[j]? = some s → isOwn s = true ∨ isDeep s = true → σ'[j]? = σ[j]? ∧ env[j]? = some s := fun j s h o => by
    by_cases z : j ∈ is
    · obtain ⟨n1, n2⟩ := no j s z h
      rw [n1, n2] at o
      rcases o with o | o <;> cases o
    · rw [(kp j z).2] at h
      exact ⟨(kp j z).1, h⟩
  refine ⟨E', O.g, fun j s a h o q => ?_, fun k ψ hm h => ?_⟩
  · obtain ⟨b1, b2⟩ := back j s h (.inl o)
    rw [b1] at q
    exact O.nw j s a b2 o q
  · obtain ⟨b1, b2⟩ := back k _ h (.inr rfl)
    obtain ⟨a, cs, e1, e2, e3, e4⟩ := O.rd k ψ hm b2
    refine ⟨a, cs, by rw [b1]; exact e1, e2, fun j s c h1 h2 h3 => ?_, e4⟩
    obtain ⟨c1, c2⟩ := back j s h1 (.inl h2)
    rw [c1] at h3
    exact e3 j s c c2 h2 h3
theorem StOk.setV (S : StOk K B0 H0 B H σ env) (i : Nat) {v : V} {x : α} (r : rep K B v x) : StOk K B0 H0 B H (σ.set i (some v)) (env.set i (.val x)) := ⟨S.en.setV i r, S.g, fun j s a h o e => by
  by_cases q : i = j
  · subst q
    by_cases hl : i < env.length
    · rw [List.getElem?_set_self hl] at h
      cases h
      cases o
    · rw [List.getElem?_eq_none (by rw [List.length_set]; omega)] at h
      cases h
  · rw [List.getElem?_set_ne q] at h e
    exact S.nw j s a h o e, fun k ψ hm h => by
  obtain ⟨ik, h⟩ := deep_set (by intro _ _ z; cases z) h
  exact (S.rd k ψ hm h).other ik fun c o => nomatch o⟩
theorem StOk.setN {β : Type} [ORep β] {B1 H1 : Hp} (S : StOk K B0 H0 B H σ env) (i : Nat) {p : Addr} {o : HO} {x : β} (np : H p = none) (g : Grow B H B1 H1) (nb : B1 p = none) (hp : H1 p = some o) (r : orep K B1 o x) :
    StOk K B0 H0 B1 H1 (σ.set i (some (.ref p))) (env.set i (.own x)) := by
  have S1 := S.grow g
  have old : ∀ (j : Nat) (s : Slot), env[j]? = some s → isOwn s = true → σ[j]? ≠ some (some (.ref p)) := fun j s h o e => by
    cases s with
    | any => cases o
    | val _ => cases o
    | obj φ hm =>
      obtain ⟨a, ob, e1, e2, _⟩ := S.en.obj h
      rw [e] at e1
      cases e1
      rw [np] at e2
      cases e2
    | deep ψ hm => cases o
  refine ⟨⟨g.bh, by rw [List.length_set, List.length_set]; exact S.en.len, fun j s h => ?_, fun j k s t h1 h2 o1 o2 e => ?_⟩, S1.g, fun j s a h o e => ?_, fun k ψ hm h => by
    obtain ⟨ik, h⟩ := deep_set (by intro _ _ z; cases z) h
    exact ((S.rd k ψ hm h).other (v := some (.ref p)) (s := .own x) ik fun c _ e => by cases e; exact .inl np).grow hm g⟩
  · by_cases q : i = j
    · subst q
      by_cases hl : i < env.length
      · rw [List.getElem?_set_self hl] at h
        cases h
        rw [List.getElem?_set_self (by rw [S.en.len]; exact hl)]
        exact ⟨p, o, rfl, hp, nb, r⟩
      · rw [List.getElem?_eq_none (by rw [List.length_set]; omega)] at h
        cases h
    · rw [List.getElem?_set_ne q] at h ⊢
      exact S1.en.at_ j s h
  · by_cases q1 : i = j
    · by_cases q2 : i = k
      · rw [← q1, ← q2]
      · subst q1
        rw [List.getElem?_set_ne q2] at h2 e
        by_cases hl : i < env.length
        · rw [List.getElem?_set_self (by rw [S.en.len]; exact hl)] at e
          exact absurd e.symm (old k t h2 o2)
        · rw [List.getElem?_eq_none (by rw [List.length_set]; omega)] at h1
          cases h1
    · rw [List.getElem?_set_ne q1] at h1 e
      by_cases q2 : i = k
      · subst q2
        by_cases hl : i < env.length
        · rw [List.getElem?_set_self (by rw [S.en.len]; exact hl)] at e
          exact absurd e (old j s h1 o1)
        · rw [List.getElem?_eq_none (by rw [List.length_set]; omega)] at h2
          cases h2
      · rw [List.getElem?_set_ne q2] at h2 e
        exact S1.en.ap j k s t h1 h2 o1 o2 e
  · by_cases q : i = j
    · subst q
      by_cases hl : i < env.length
      · rw [List.getElem?_set_self (by rw [S.en.len]; exact hl)] at e
        cases e
        exact S.g.h.none np
      · rw [List.getElem?_eq_none (by rw [List.length_set]; omega)] at h
        cases h
    · rw [List.getElem?_set_ne q] at h e
      exact S.nw j s a h o e
theorem StOk.freeze {xs : List α} (S : StOk K B0 H0 B H σ env) (i : Nat) (hi : env[i]? = some (.own xs)) : ∃ B1, StOk K B0 H0 B1 H σ (env.set i (.val xs)) ∧ Le B B1 := by
  obtain ⟨a, o, e1, e2, e3, vs, rfl, r⟩ := S.en.own hi
  have nw := S.nw i _ a hi rfl e1
  have hl : i < env.length := (List.getElem?_eq_some_iff.mp hi).1
  have l1 : Le B (upd B a (.lst vs)) := Le.put e3
  have l2 : Le (upd B a (.lst vs)) H := fun b u z => by
    by_cases k : b = a
    · subst k
      rw [upd_same] at z
      rw [e2, z]
    · rw [upd_ne k] at z
      exact S.en.bh b u z
  have other : ∀ (j : Nat) (s : Slot), i ≠ j → env[j]? = some s → isOwn s = true → σ[j]? ≠ some (some (.ref a)) := fun j s n h o e => n (S.en.ap i j _ s hi h rfl o (e1.trans e.symm))
  refine ⟨upd B a (.lst vs), ⟨⟨l2, by rw [List.length_set]; exact S.en.len, fun j s h => ?_, fun j k s t h1 h2 o1 o2 e => ?_⟩, ⟨S.g.b.trans l1, l2, S.g.h, fun b z n => ?_⟩, fun j s b h o e => ?_, fun k ψ hm h => by
    obtain ⟨ik, h⟩ := deep_set (by intro _ _ z; cases z) h
    obtain ⟨a2, cs, f1, f2, f3, f4⟩ := S.rd k ψ hm h
    refine ⟨a2, cs, f1, fun c hc => ⟨(f2 c hc).1, ?_, (f2 c hc).2.2⟩, fun j s c h1 h2 h3 => ?_, hm _ _ _ _ _ _ _ l1 (fun _ _ => rfl) f4⟩
    · rw [upd_ne (fun z => f3 i _ a hi rfl e1 (by rw [← z]; exact hc))]
      exact (f2 c hc).2.1
    · by_cases q : i = j
      · subst q
        rw [List.getElem?_set_self hl] at h1
        cases h1
        cases h2
      · rw [List.getElem?_set_ne q] at h1
        exact f3 j s c h1 h2 h3⟩, l1⟩
  · by_cases q : i = j
    · subst q
      rw [List.getElem?_set_self hl] at h
      cases h
      exact ⟨_, e1, a, vs, rfl, SqL.of upd_same, r.mono l1⟩
    · rw [List.getElem?_set_ne q] at h
      have z := S.en.at_ j s h
      cases s with
      | any => trivial
      | @val α' i' y =>
        obtain ⟨u, f1, f2⟩ := z
        exact ⟨u, f1, Rep.mono l1 f2⟩
      | obj φ hm =>
        obtain ⟨b, ob, f1, f2, f3, f4⟩ := z
        refine ⟨b, ob, f1, f2, ?_, hm _ _ _ _ _ l1 f4⟩
        rw [upd_ne (fun k => other j _ q h rfl (by rw [f1, k]))]
        exact f3
      | deep ψ hm => trivial
  · by_cases q1 : i = j
    · subst q1
      rw [List.getElem?_set_self hl] at h1
      cases h1
      cases o1
    · by_cases q2 : i = k
      · subst q2
        rw [List.getElem?_set_self hl] at h2
        cases h2
        cases o2
      · rw [List.getElem?_set_ne q1] at h1
        rw [List.getElem?_set_ne q2] at h2
        exact S.en.ap j k s t h1 h2 o1 o2 e
  · rw [upd_ne (fun k => n (by rw [k]; exact nw))]
    exact S.g.f b z n
  · by_cases q : i = j
    · subst q
      rw [List.getElem?_set_self hl] at h
      cases h
      cases o
    · rw [List.getElem?_set_ne q] at h
      exact S.nw j s b h o e
theorem StOk.change {φ ψ : PySem.W.Frag → Hp → Addr → HO → Prop} {hm : ∀ K B B' a o, Le B B' → φ K B a o → φ K B' a o} {hm' : ∀ K B B' a o, Le B B' → ψ K B a o → ψ K B' a o} (S : StOk K B0 H0 B H σ env) (i : Nat) {a : Addr} {o' : HO} (hi : env[i]? = some (.obj φ hm)) (ha : σ[i]? = some (some (.ref a))) (r : ψ K B a o') :
    StOk K B0 H0 B (upd H a o') σ (env.set i (.obj ψ hm')) := by
  obtain ⟨a', o, e1, e2, e3, _⟩ := S.en.obj hi
  rw [ha] at e1
  cases e1
  have nw := S.nw i _ a hi rfl ha
  have hl : i < env.length := (List.getElem?_eq_some_iff.mp hi).1
  have lB : Le B (upd H a o') := fun b u z => by
    rw [upd_ne (fun k => by rw [k, e3] at z; cases z)]
    exact S.en.bh b u z
  have l0 : Le H0 (upd H a o') := fun b u z => by
    rw [upd_ne (fun k => by rw [k, nw] at z; cases z)]
    exact S.g.h b u z
  have other : ∀ (j : Nat) (s : Slot), i ≠ j → env[j]? = some s → isOwn s = true → σ[j]? ≠ some (some (.ref a)) := fun j s n h o e => n (S.en.ap i j _ s hi h rfl o (ha.trans e.symm))
  refine ⟨⟨lB, by rw [List.length_set]; exact S.en.len, fun j s h => ?_, fun j k s t h1 h2 o1 o2 e => ?_⟩, ⟨S.g.b, lB, l0, S.g.f⟩, fun j s b h o e => ?_, fun k ψ hm h => by
    obtain ⟨ik, h⟩ := deep_set (by intro _ _ z; cases z) h
    obtain ⟨a2, cs, f1, f2, f3, f4⟩ := S.rd k ψ hm h
    have na : ∀ c ∈ cs, c ≠ a := fun c hc z => f3 i _ a hi rfl ha (by rw [← z]; exact hc)
    refine ⟨a2, cs, f1, fun c hc => ⟨by rw [upd_ne (na c hc)]; exact (f2 c hc).1, (f2 c hc).2⟩, fun j s c h1 h2 h3 => ?_, hm _ _ _ _ _ _ _ (Le.refl _) (fun c hc => upd_ne (na c hc)) f4⟩
    by_cases q : i = j
    · subst q
      exact f3 i _ c hi rfl h3
    · rw [List.getElem?_set_ne q] at h1
      exact f3 j s c h1 h2 h3⟩
  · by_cases q : i = j
    · subst q
      rw [List.getElem?_set_self hl] at h
      cases h
      exact ⟨a, o', ha, upd_same, e3, r⟩
    · rw [List.getElem?_set_ne q] at h
      have z := S.en.at_ j s h
      cases s with
      | any => trivial
      | @val α' i' w => exact z
      | obj φ' hm' =>
        obtain ⟨b, ob, f1, f2, f3, f4⟩ := z
        refine ⟨b, ob, f1, ?_, f3, f4⟩
        rw [upd_ne (fun k => other j _ q h rfl (by rw [f1, k]))]
        exact f2
      | deep ψ hm => trivial
  · have back : ∀ (m : Nat) (s : Slot), (env.set i (.obj ψ hm'))[m]? = some s → isOwn s = true → ∃ s', env[m]? = some s' ∧ isOwn s' = true := fun m s h o => by
      by_cases q : i = m
      · subst q
        exact ⟨_, hi, rfl⟩
      · rw [List.getElem?_set_ne q] at h
        exact ⟨s, h, o⟩
    obtain ⟨s', g1, p1⟩ := back j s h1 o1
    obtain ⟨t', g2, p2⟩ := back k t h2 o2
    exact S.en.ap j k s' t' g1 g2 p1 p2 e
  · by_cases q : i = j
    · subst q
      rw [ha] at e
      cases e
      exact nw
    · rw [List.getElem?_set_ne q] at h
      exact S.nw j s b h o e
end

section
variable {S T L R : Type} [Rep R]
def Post (K : PySem.W.Frag) (B0 H0 Bs : Hp) (mk : S → List Slot) (lk : L → List Slot) (D : Ends) (m : Fl S L R) : Prop := match m with
  | .err => False
  | .nx s => ∀ B H σ, Le Bs B → StOk K B0 H0 B H σ (mk s) → D.nx σ H
  | .rt r => ∀ B H v, Grow B0 H0 B H → rep K B v r → D.rt v H
  | .bk s => ∀ B H σ, Le Bs B → StOk K B0 H0 B H σ (lk s) → D.bk σ H
  | .ct s => ∀ B H σ, Le Bs B → StOk K B0 H0 B H σ (lk s) → D.ct σ H
structure DeS (c : Ct) (env : List Slot) (b : List Stmt) (mk : S → List Slot) (lk : L → List Slot) (m : Fl S L R) : Prop where
  ok : ∀ (B0 H0 B H : Hp) (σ : St), StOk c.K B0 H0 B H σ env → ∀ D : Ends, Post c.K B0 H0 B mk lk D m → cS c b D σ H
instance {c : Ct} {env : List Slot} {b : List Stmt} {mk : S → List Slot} {lk : L → List Slot} {m : Fl S L R} : CoeFun (DeS c env b mk lk m) (fun _ => ∀ (B0 H0 B H : Hp) (σ : St), StOk c.K B0 H0 B H σ env → ∀ D : Ends, Post c.K B0 H0 B mk lk D m → cS c b D σ H) := ⟨DeS.ok⟩
theorem Post.mono {K : PySem.W.Frag} {B0 H0 B1 B2 : Hp} {mk : S → List Slot} {lk : L → List Slot} {D : Ends} {m : Fl S L R} (l : Le B1 B2) (P : Post K B0 H0 B1 mk lk D m) : Post K B0 H0 B2 mk lk D m := by
  cases m with
  | err => exact P
  | nx s => exact fun B H σ k => P B H σ (l.trans k)
  | rt r => exact P
  | bk s => exact fun B H σ k => P B H σ (l.trans k)
  | ct s => exact fun B H σ k => P B H σ (l.trans k)
variable {c : Ct} {env env' : List Slot} {st : Stmt} {rest b b' : List Stmt} {e a d : Expr} {mk : S → List Slot} {lk : L → List Slot} {α β γ : Type} [Rep α] [Rep β] [Rep γ]
theorem cS_cons {t : TS} (h : ∀ X, Fits c X → PS X st t) {D : Ends} {σ : St} {H : Hp} (q : t { D with nx := cS c rest D } σ H) : cS c (st :: rest) D σ H :=
  cS_of (fun X F => pss_cons (h X F) (cS_ps X F)) (show tSeq t (cS c rest) D σ H from q)
theorem ds_end {s : S} (w : Wk env (mk s)) : DeS c env [] mk lk (.nx s : Fl S L R) := .mk fun B0 H0 B H σ O D P =>
  cS_of (fun X F => pss_nil) (show tNext D σ H from P B H σ (Le.refl _) (O.wk w))
theorem ds_freeze {xs : List α} {m : Fl S L R} (i : Nat) (hi : env[i]? = some (.own xs)) (h : DeS c (env.set i (.val xs)) b mk lk m) : DeS c env b mk lk m := .mk fun B0 H0 B H σ O D P => by
  obtain ⟨B1, O1, l⟩ := O.freeze i hi
  exact h B0 H0 B1 H σ O1 D (P.mono l)
theorem ds_err : DeS c env b mk lk (.err : Fl S L R) := .mk fun B0 H0 B H σ O D P => P.elim
theorem post_bindO {A : Type} {K : PySem.W.Frag} {B0 H0 Bs : Hp} {D : Ends} {m : Option A} {k : A → Fl S L R} (P : Post K B0 H0 Bs mk lk D (Fl.bindO m k)) : ∃ x, m = some x ∧ Post K B0 H0 Bs mk lk D (k x) := by
  cases m with
  | none => exact P.elim
  | some x => exact ⟨x, rfl, P⟩
def AsE (c : Ct) (env : List Slot) (st : Stmt) (i : Nat) {α : Type} [Rep α] (m : Option α) : Prop := ∃ te, (∀ X, Fits c X → PS X st (tAsg te (gName i))) ∧ ∀ x, m = some x → EvE c.K env te x
def AsN (c : Ct) (env : List Slot) (st : Stmt) (i : Nat) {β : Type} [ORep β] (m : Option β) : Prop := ∃ te, (∀ X, Fits c X → PS X st (tAsg te (gName i))) ∧ ∀ x, m = some x → EvN c.K env te x
theorem as_e {m : Option α} (i : Nat) {x : Str} {pos pos' : Pos} (h : De c env e m) (nd : c.N.Nodup) (hN : c.N[i]? = some x) (hx : Loc c.sc x) (hf : c.fn x = true ∨ c.sc.names.lookup x = some .local) (hs : ∀ env : PySem.Env, env.scope = c.sc → swapsWith e (some (.Name x pos')) pos.line env = pure false) :
    AsE c env (.Assign [.Name x pos'] e pos) i m := by
  obtain ⟨t, h1, h2⟩ := h
  exact ⟨t, fun X F => ps_set (by rw [F.N]; exact nd) (fits_ix F hN) (fits_loc F hx) (h1 X F) (hs _ F.sc) (by rw [F.fn, F.sc]; exact hf), h2⟩
theorem as_n {β : Type} [ORep β] {m : Option β} (i : Nat) {x : Str} {pos pos' : Pos} (h : DeN c env e m) (nd : c.N.Nodup) (hN : c.N[i]? = some x) (hx : Loc c.sc x) (hf : c.fn x = true ∨ c.sc.names.lookup x = some .local) (hs : ∀ env : PySem.Env, env.scope = c.sc → swapsWith e (some (.Name x pos')) pos.line env = pure false) :
    AsN c env (.Assign [.Name x pos'] e pos) i m := by
  obtain ⟨t, h1, h2⟩ := h
  exact ⟨t, fun X F => ps_set (by rw [F.N]; exact nd) (fits_ix F hN) (fits_loc F hx) (h1 X F) (hs _ F.sc) (by rw [F.fn, F.sc]; exact hf), h2⟩
theorem AsN.toE {m : Option (List α)} {i : Nat} (h : AsN c env st i m) : AsE c env st i m := by
  obtain ⟨t, h1, h2⟩ := h
  exact ⟨t, h1, fun x hx => (h2 x hx).de⟩
theorem ds_set {i : Nat} {m : Option α} {k : α → Fl S L R} (h : AsE c env st i m) (g : ∀ x, DeS c (env.set i (.val x)) rest mk lk (k x)) : DeS c env (st :: rest) mk lk (Fl.bindO m k) := .mk fun B0 H0 B H σ O D P => by
  obtain ⟨x, ex, P⟩ := post_bindO P
  obtain ⟨t, h1, h2⟩ := h
  refine cS_cons h1 ?_
  exact h2 x ex B H σ O.en _ fun v B1 H1 k1 r => g x B0 H0 B1 H1 _ ((O.grow k1).setV i r) D (P.mono k1.b)
theorem ds_own {β : Type} [ORep β] {i : Nat} {m : Option β} {k : β → Fl S L R} (h : AsN c env st i m) (g : ∀ x, DeS c (env.set i (.own x)) rest mk lk (k x)) : DeS c env (st :: rest) mk lk (Fl.bindO m k) := .mk fun B0 H0 B H σ O D P => by
  obtain ⟨x, ex, P⟩ := post_bindO P
  obtain ⟨t, h1, h2⟩ := h
  refine cS_cons h1 ?_
  exact h2 x ex B H σ O.en _ fun p o B1 H1 np k1 nb hp r => g x B0 H0 B1 H1 _ (O.setN i np k1 nb hp r) D (P.mono k1.b)
theorem ds_unpack {f : α → List Slot → List Slot} {is : List Nat} {tg : Expr} {pos : Pos} {m : Option α} {k : α → Fl S L R} (h : De c env e m) (hg : DeTg c tg f is) (g : ∀ x, DeS c (f x env) rest mk lk (k x))
    (hs : ∀ env, swapsWithSole [tg] e pos.line env = pure false := by intro _; rfl) (hw : ∀ env, swappedStores [tg] e env = pure none := by intro _; rfl) (h1 : ∀ env, (assignEach [tg] env).map (·.2) = [assign tg env] := by intro _; rfl) :
    DeS c env (.Assign [tg] e pos :: rest) mk lk (Fl.bindO m k) := .mk fun B0 H0 B H σ O D P => by
  obtain ⟨x, ex, P⟩ := post_bindO P
  obtain ⟨t, e1, e2⟩ := h
  obtain ⟨w, g1, g2⟩ := hg
  refine cS_cons (fun X F => ps_asg (e1 X F) (g1 X F) (hs _) (hw _) (h1 _)) ?_
  refine e2 x ex B H σ O.en _ fun v B1 H1 k1 r => g2.run x env B1 H1 σ v (O.en.grow k1) r _ fun σ' E' _ kp no => ?_
  exact g x B0 H0 B1 H1 σ' ((O.grow k1).retarget E' kp no) D (P.mono k1.b)
theorem ds_ret {pos : Pos} {m : Option R} (h : De c env e m) : DeS c env (.Return (some e) pos :: rest) mk lk (Fl.bindO m fun x => (.rt x : Fl S L R)) := .mk fun B0 H0 B H σ O D P => by
  obtain ⟨x, ex, P⟩ := post_bindO P
  obtain ⟨t, h1, h2⟩ := h
  refine cS_cons (fun X F => ps_ret (h1 X F)) ?_
  exact h2 x ex B H σ O.en _ fun v B1 H1 k1 r => P B1 H1 v (O.g.trans k1) r
theorem ds_append (i : Nat) {x : Str} {p1 p2 p3 pos : Pos} {xs : List α} {m : Option α} {k : List α → Fl S L R} (hi : env[i]? = some (.own xs)) (hN : c.N[i]? = some x) (hv : Vis c.sc x) (h : De c env e m) (g : ∀ y, DeS c (env.set i (.own (xs ++ [y]))) rest mk lk (k (xs ++ [y])))
    (hd : (x == ("__debug__" : Str)) = false := by decide) (hcd : (x == ("__classdict__" : Str)) = false := by decide) (hs : ∀ env, starEach [e] env = (false, eval e env) :: starEach [] env := by intro _; rfl)
    (hsw : ∀ env, swapsWith (.Call (.Attribute (.Name x p1) "append" p2) [e] [] p3) none pos.line env = pure false := by intro _; rfl)
    (hpe : ∀ X to t, PE X (.Name x p1) to → PE X e t → PE X (.Call (.Attribute (.Name x p1) "append" p2) [e] [] p3) (tBM X.K "list" rAppend to (tCons t tNil)) := by
      intro X to t ho ht; exact pe_bm PySem.F.plainAttrs_list PySem.F.slot_list_append PySem.F.type_list_append mt_append ho (pa_cons ht pa_nil)) :
    DeS c env (.Expr (.Call (.Attribute (.Name x p1) "append" p2) [e] [] p3) pos :: rest) mk lk (Fl.bindO m fun y => if len1 xs.length = true then k (xs ++ [y]) else .err) := .mk fun B0 H0 B H σ O D P => by
  obtain ⟨y, ey, P⟩ := post_bindO P
  obtain ⟨t, h1, h2⟩ := h
  split at P
  · rename_i hl
    refine cS_cons (t := tDrop (tBM c.K "list" rAppend (tVar i) (tCons t tNil))) (fun X F => by rw [← F.K]; exact ps_expr (hpe X _ t (pe_var (fits_ix F hN) (fits_vis F hv) hd hcd) (h1 X F)) (hsw _)) ?_
    obtain ⟨a, o, e1, e2, e3, vs, rfl, r⟩ := O.en.own hi
    refine ⟨.ref a, e1, .inl ⟨rfl, _, SqL.of e2⟩, ?_⟩
    refine h2 y ey B H σ O.en _ fun v B1 H1 k1 rv => ?_
    have O1 := O.grow k1
    refine ⟨a, vs, v, rfl, rfl, k1.h a _ e2, ?_, ?_⟩
    · rw [r.len]
      exact Nat.lt_of_le_of_lt (of_decide_eq_true hl) (by decide)
    · exact g y B0 H0 B1 _ σ (O1.change i hi e1 ⟨_, rfl, (r.mono k1.b).append (.cons rv .nil)⟩) D (P.mono k1.b)
  · exact P.elim
theorem post_bind {J : Type} {jk : J → List Slot} {K : PySem.W.Frag} {B0 H0 Bs : Hp} {D : Ends} {m : Fl J L R} {k : J → Fl S L R} (P : Post K B0 H0 Bs mk lk D (m.bind k)) {next : St → Hp → Prop} (hn : ∀ j, m = .nx j → Post K B0 H0 Bs mk lk D (k j) → ∀ B H σ, Le Bs B → StOk K B0 H0 B H σ (jk j) → next σ H) :
    Post K B0 H0 Bs jk lk { D with nx := next } m := by
  cases m with
  | err => exact P
  | nx j => exact hn j rfl P
  | rt r => exact P
  | bk s => exact P
  | ct s => exact P
theorem ds_if {J : Type} {jk : J → List Slot} {t : Expr} {pos : Pos} {mt : Option Bool} {m1 m2 : Fl J L R} {k : J → Fl S L R} (ht : DeT c env t mt) (h1 : DeS c env b jk lk m1) (h2 : DeS c env b' jk lk m2) (g : ∀ j, DeS c (jk j) rest mk lk (k j)) :
    DeS c env (.If t b b' pos :: rest) mk lk (Fl.bindO mt fun x => (if x = true then m1 else m2).bind k) := .mk fun B0 H0 B H σ O D P => by
  obtain ⟨x, ex, P⟩ := post_bindO P
  obtain ⟨u, t1, t2⟩ := ht
  refine cS_cons (fun X F => ps_if (t1 X F) (cS_ps X F) (cS_ps X F)) ?_
  refine t2 x ex B H σ O.en _ fun B1 H1 k1 => ?_
  have O1 := O.grow k1
  cases x with
  | true =>
    show cS c b { D with nx := cS c rest D } σ H1
    exact h1 B0 H0 B1 H1 σ O1 _ (post_bind (P.mono k1.b) fun j _ Pj B2 H2 σ2 l2 O2 => g j B0 H0 B2 H2 σ2 O2 D (Pj.mono l2))
  | false =>
    show cS c b' { D with nx := cS c rest D } σ H1
    exact h2 B0 H0 B1 H1 σ O1 _ (post_bind (P.mono k1.b) fun j _ Pj B2 H2 σ2 l2 O2 => g j B0 H0 B2 H2 σ2 O2 D (Pj.mono l2))
theorem loop_take {f : α → T → Fl T T R} {xs : List α} {i : Nat} {x : α} {s : T} (e : xs[i]? = some x) : (Fl.loop f (xs.drop i) s : Fl T L R) = match f x s with
    | .err => .err
    | .nx s' => Fl.loop f (xs.drop (i + 1)) s'
    | .ct s' => Fl.loop f (xs.drop (i + 1)) s'
    | .bk s' => .nx s'
    | .rt r => .rt r := by
  have hl := (List.getElem?_eq_some_iff.mp e).1
  have hx := (List.getElem?_eq_some_iff.mp e).2
  rw [List.drop_eq_getElem_cons hl, hx]
  rfl
theorem ds_for {f' : α → List Slot → List Slot} {is : List Nat} {tg iter : Expr} {pos : Pos} {m : Option (List α)} {sk : T → List Slot} {s0 : T} {f : α → T → Fl T T R} {k : T → Fl S L R} (hi : DeIt c env iter m) (hg : DeTg c tg f' is) (w : Wk env (sk s0))
    (hb : ∀ x s, DeS c (f' x (sk s)) b sk sk (f x s)) (g : ∀ s, DeS c (sk s) rest mk lk (k s)) (hs : ∀ env x, foldedSetIterable iter env x = pure x := by intro _ _; rfl) :
    DeS c env (.For tg iter b [] pos :: rest) mk lk (Fl.bindO m fun xs => (Fl.loop f xs s0 : Fl T L R).bind k) := .mk fun B0 H0 B H σ O D P => by
  obtain ⟨xs, exs, P⟩ := post_bindO P
  obtain ⟨wi, i1, i2⟩ := hi
  obtain ⟨gt, g1, g2⟩ := hg
  refine cS_cons (fun X F => ps_for (by rw [F.xe]; exact PassesOwn.never) F.calm (i1 X F tg) (g1 X F) (cS_ps X F) (hs _)) ?_
  refine i2 xs exs B H σ O.en _ fun J B1 H1 k1 ⟨G, Y, W, hG, hY⟩ => ?_
  generalize hm : (Fl.loop f xs s0 : Fl T L R) = total at P
  refine for_it W (fun i σ' H' => ∃ B' s, StOk c.K B0 H0 B' H' σ' (sk s) ∧ Le B1 B' ∧ (Fl.loop f (xs.drop i) s : Fl T L R) = total) ⟨B1, s0, (O.grow k1).wk w, Le.refl _, hm⟩
    (fun i σ' H' _ ⟨B', s, O', l', _⟩ => hG H' (l'.trans O'.en.bh)) (fun i v σ' H' H2 hi ⟨B', s, O', l', ht⟩ y => ?_) fun σ' H' ⟨B', s, O', l', ht⟩ => ?_
  · obtain ⟨B2, x, k2, ex, rx⟩ := hY i B' H' v H2 hi l' O'.en.bh y
    have O2 := O'.grow k2
    refine g2.run x (sk s) B2 H2 σ' v O2.en rx _ fun σ3 E3 _ kp no => ?_
    have O3 : StOk c.K B0 H0 B2 H2 σ3 (f' x (sk s)) := O2.retarget E3 kp no
    rw [loop_take ex] at ht
    refine hb x s B0 H0 B2 H2 σ3 O3 _ ?_
    cases hf : f x s with
    | err =>
      rw [hf] at ht
      rw [← ht] at P
      exact P
    | nx s' =>
      rw [hf] at ht
      exact fun B4 H4 σ4 l4 O4 => ⟨B4, s', O4, (l'.trans k2.b).trans l4, ht⟩
    | ct s' =>
      rw [hf] at ht
      exact fun B4 H4 σ4 l4 O4 => ⟨B4, s', O4, (l'.trans k2.b).trans l4, ht⟩
    | bk s' =>
      rw [hf] at ht
      rw [← ht] at P
      exact fun B4 H4 σ4 l4 O4 => g s' B0 H0 B4 H4 σ4 O4 D (P.mono ((k1.b.trans (l'.trans k2.b)).trans l4))
    | rt r =>
      rw [hf] at ht
      rw [← ht] at P
      exact P
  · rw [List.drop_length] at ht
    rw [← ht] at P
    exact g s B0 H0 B' H' σ' O' D (P.mono (k1.b.trans l'))
end
end Dn

set_option Elab.async false
set_option linter.all false
set_option maxRecDepth 100000
namespace Dn
open PySem PySem.Spec L2
open Rep (rep)
open ORep (orep)

class Pk (P : Type) where
  sl : P → List Slot
  val : ∀ (p : P) (s : Slot), s ∈ sl p → isOwn s = false
instance : Pk Unit := ⟨fun _ => [], fun _ _ h => nomatch h⟩
instance {α β : Type} [Rep α] [Pk β] : Pk (α × β) := ⟨fun p => .val p.1 :: Pk.sl p.2, fun p s h => by
  rcases List.mem_cons.mp h with rfl | h
  · rfl
  · exact Pk.val _ s h⟩
def spF (K : PySem.W.Frag) {P R : Type} [Pk P] [Rep R] (f : P → Option R) : Sp := fun vs H Q _ => ∃ (p : P) (r : R) (B : Hp), f p = some r ∧ Le B H ∧ Args K B vs (Pk.sl p) ∧ ∀ v B' H', Grow B H B' H' → rep K B' v r → Q v H'
section
variable {P : Program} {w : World} {K : PySem.W.Frag} {mg : Str → Option Value} {base : Heap}
theorem start_len {N : List Str} {vs : List V} (h : vs.length ≤ N.length) : (L2.start N vs).length = N.length := by
  unfold L2.start
  rw [List.length_append, List.length_map, List.length_replicate]
  omega
theorem start_get {N : List Str} {vs : List V} {i : Nat} (h : i < vs.length) : (L2.start N vs)[i]? = (vs.map some)[i]? := by
  unfold L2.start
  rw [List.getElem?_append_left (by rw [List.length_map]; exact h)]
theorem _root_.Dn.Args.noDeep {B : Hp} {vs : List V} {xs : List Slot} (h : Args K B vs xs) : ∀ (i : Nat) ψ hm, xs[i]? ≠ some (Slot.deep ψ hm) := by
  induction h with
  | nil => intro i ψ hm e; cases e
  | cons r _ ih =>
    intro i ψ hm e
    cases i with
    | zero => cases e
    | succ i => exact ih i ψ hm e
theorem st_start {K : PySem.W.Frag} {B H : Hp} {N : List Str} {vs : List V} {xs : List Slot} (lB : Le B H) (ha : Args K B vs xs) (hl : vs.length ≤ N.length) : StOk K B H B H (L2.start N vs) (xs ++ List.replicate (N.length - xs.length) .any) := by
  have len := ha.len
  have key : ∀ (i : Nat) (s : Slot), (xs ++ List.replicate (N.length - xs.length) Slot.any)[i]? = some s → s = .any ∨ (i < xs.length ∧ xs[i]? = some s) := fun i s h => by
    by_cases q : i < xs.length
    · rw [List.getElem?_append_left q] at h
      exact .inr ⟨q, h⟩
    · rw [List.getElem?_append_right (by omega)] at h
      exact .inl (List.eq_of_mem_replicate (List.mem_of_getElem? h))
  have no : ∀ (i : Nat) (s : Slot), (xs ++ List.replicate (N.length - xs.length) Slot.any)[i]? = some s → isOwn s = false := fun i s h => by
    rcases key i s h with rfl | ⟨_, h⟩
    · rfl
    · exact (ha.get h).2
  refine ⟨⟨lB, ?_, fun i s h => ?_, fun i j s t h1 _ o1 _ _ => ?_⟩, Grow.refl lB, fun i s a h o _ => ?_, fun i ψ hm h => by
    rcases key i _ h with z | ⟨_, h⟩
    · cases z
    · exact absurd h (ha.noDeep i ψ hm)⟩
  · rw [start_len hl, List.length_append, List.length_replicate]
    omega
  · rcases key i s h with rfl | ⟨q, h⟩
    · trivial
    · rw [start_get (by omega)]
      have z := (ha.get h).1
      cases s with
      | any => trivial
      | @val α' i' x => exact z
      | obj φ hm =>
        have := (ha.get h).2
        cases this
      | deep ψ hm => trivial
  · rw [no i s h1] at o1
    cases o1
  · rw [no i s h] at o
    cases o
def ctOf (P : Program) (w : World) (K : PySem.W.Frag) (mg : Str → Option Value) (base : Heap) (k : Nat) (N : List Str) (sc : Scope) : Ct := ⟨P, w, K, mg, base, k, N, sc, fun _ => true, true⟩
theorem fits_def {CX : CXT} {k : Nat} {N : List Str} {qual : Str} {sc : Scope} {f : Addr} {cd : Value} {A : Around} {outer : List PySem.Env} {s : Shared} {H : Hp} {E : XK} (hr : Room k (A.deeper (PyProof.Rows.envOfC qual sc s.heap.objs.size f cd))) :
    Fits (ctOf P w K mg base k N sc) (cxOf CX P w K mg base N qual sc f cd A outer s H E).nox := ⟨rfl, rfl, rfl, rfl, rfl, rfl, rfl, rfl, rfl, hr, rfl, fun _ => ⟨rfl, rfl, rfl⟩⟩
theorem fn_ok {Pp S L R : Type} [Pk Pp] [Rep R] {x qual : Str} {st : Stmt} {f : Addr} {fd : FuncData} {N ps : List Str} {k : Nat} {mk : S → List Slot} {lk : L → List Slot} {m : Pp → Fl S L R} {en : Option R} (F : Fun K x qual st f fd) (Sc : FnScope N ps (defScope st)) (np : ps.length ≤ N.length)
    (hn : ∀ p : Pp, (Pk.sl p).length = ps.length) (hen : ∀ r, en = some r → ∀ B, rep K B .non r)
    (hb : ∀ p : Pp, DeS (ctOf P w K mg base k N (defScope st)) (Pk.sl p ++ List.replicate (N.length - (Pk.sl p).length) .any) (defBody st) mk lk (m p)) :
    FnOk P w K mg base CX0 (k + 1) f fd ps (spF K fun p => (m p).fin en) := by
  refine F.ok Sc (fun vs H Q E h => ?_) (fun cdv A outer s H vs Q E hr h => ?_)
  · obtain ⟨p, r, B, _, _, ha, _⟩ := h
    exact ha.len.trans (hn p)
  · obtain ⟨p, r, B, hf, lB, ha, q⟩ := h
    have hl : vs.length ≤ N.length := by
      rw [ha.len, hn p]
      exact np
    refine ⟨_, cS_ps _ (fits_def hr), ?_⟩
    refine hb p B H B H _ (st_start lB ha hl) _ ?_
    replace hf : Fl.fin en (m p) = some r := hf
    cases hm : m p with
    | err => rw [hm] at hf; cases hf
    | nx s' =>
      rw [hm] at hf
      exact fun B' H' σ' _ O => q .non B' H' O.g (hen r hf B')
    | rt r' =>
      rw [hm] at hf
      cases hf
      exact fun B' H' v g rv => q v B' H' g rv
    | bk s' => rw [hm] at hf; cases hf
    | ct s' => rw [hm] at hf; cases hf
end
section
variable {c : Ct} {env : List Slot} {e o : Expr} {es : List Expr} {α β γ δ ε ζ R : Type} [Rep α] [Rep β] [Rep γ] [Rep δ] [Rep ε] [Rep ζ] [Rep R]
def DeP (c : Ct) (env : List Slot) (es : List Expr) {P : Type} [Pk P] (m : Option P) : Prop := ∃ t, (∀ X, Fits c X → PA X es t) ∧ ∀ p, m = some p → EvA c.K env t (Pk.sl p)
theorem dp_nil : DeP c env [] (some ()) := ⟨tNil, fun _ _ => pa_nil, fun p hp B H σ E Q q => q [] B H (Grow.refl E.bh) .nil⟩
theorem dp_cons {P : Type} [Pk P] {m : Option α} {n : Option P} (h : De c env e m) (g : DeP c env es n) (hs : ∀ env, starEach (e :: es) env = (false, eval e env) :: starEach es env := by intro _; rfl) :
    DeP c env (e :: es) (m.bind fun x => n.bind fun xs => some (x, xs)) := by
  obtain ⟨t, h1, h2⟩ := h
  obtain ⟨u, g1, g2⟩ := g
  refine ⟨_, fun X F => pa_cons (h1 X F) (g1 X F) (hs _), fun z hz B H σ E Q q => ?_⟩
  obtain ⟨x, ex, hz⟩ := bind_some hz
  obtain ⟨xs, exs, hz⟩ := bind_some hz
  cases hz
  exact h2 x ex B H σ E _ fun v B1 H1 k1 r1 => g2 xs exs B1 H1 σ (E.grow k1) _ fun vs B2 H2 k2 r2 => q (v :: vs) B2 H2 (k1.trans k2) (.cons (Rep.mono k2.b r1) r2)
structure Df (c : Ct) (x : Str) {P R : Type} [Pk P] [Rep R] (f : P → Option R) : Prop where
  ok : ∃ (j : Nat) (fa : Addr) (fd : FuncData) (ps : List Str), FnOk c.P c.w c.K c.mg c.base CX0 j fa fd ps (spF c.K f) ∧ j ≤ c.k ∧ c.mg x = some (.ref fa) ∧ PySem.W.keepIn c.K (.ref fa) = true ∧ Binds c.K fd ps []
theorem Df.blk {x : Str} {P R : Type} [Pk P] [Rep R] {f : P → Option R} (D : Df c x f) (scope : Scope) : Df (c.blk scope) x f := ⟨D.ok⟩
theorem de_call {P : Type} [Pk P] {f : P → Option R} {x : Str} {p pos : Pos} {m : Option P} (D : Df c x f) (h : DeP c env (e :: es) m) (hg : Gv c x := by rfl) (hdb : (x == ("__debug__" : Str)) = false := by decide)
    (he : ∀ env, starEach (e :: es) env = (false, eval e env) :: starEach es env := by intro _; rfl) (hpl : ∀ env, (backTo pos (starEach es env)).any (·.1) = false := by intro _; rfl) : De c env (.Call (.Name x p) (e :: es) [] pos) (m.bind f) := by
  obtain ⟨j, fa, fd, ps, F, hj, hm, hk, hb⟩ := D.ok
  obtain ⟨t, h1, h2⟩ := h
  refine ⟨tCall (spF c.K f) [] E0 t, fun X Fx => ?_, fun z hz B H σ E Q q => ?_⟩
  · refine pe_call (CX := CX0) (k := j) (f := fa) (fd := fd) (ps := ps) (ds := []) ?_ (Fx.room.mono hj) (fits_gl Fx hg) (by rw [Fx.mg]; exact hm) (by rw [Fx.K]; exact hk) (by rw [Fx.K]; exact hb) .nil pass0 (h1 X Fx) hdb (he _) (hpl _)
    rw [Fx.P, Fx.w, Fx.K, Fx.mg, Fx.base]
    exact F
  · obtain ⟨y, ey, hz⟩ := bind_some hz
    refine h2 y ey B H σ E _ fun vs B1 H1 k1 ha => ?_
    rw [List.append_nil]
    exact ⟨y, z, B1, hz, k1.bh, ha, fun v B2 H2 k2 r => q v B2 H2 (k1.trans k2) r⟩
theorem bind1 {A : Type} {m : Option α} {f : α × Unit → Option A} : ((m.bind fun x => (some ()).bind fun y => some (x, y)).bind f) = m.bind fun x => f (x, ()) := by cases m <;> rfl
theorem bind2 {A : Type} {m : Option α} {n : Option β} {f : α × β × Unit → Option A} : ((m.bind fun x => (n.bind fun x => (some ()).bind fun y => some (x, y)).bind fun y => some (x, y)).bind f) = m.bind fun x => n.bind fun y => f (x, y, ()) := by cases m <;> cases n <;> rfl
theorem bind3 {A : Type} {m : Option α} {n : Option β} {o : Option γ} {f : α × β × γ × Unit → Option A} : ((m.bind fun x => (n.bind fun x => (o.bind fun x => (some ()).bind fun y => some (x, y)).bind fun y => some (x, y)).bind fun y => some (x, y)).bind f) = m.bind fun x => n.bind fun y => o.bind fun z => f (x, y, z, ()) := by cases m <;> cases n <;> cases o <;> rfl
theorem de_call1 {f : α × Unit → Option R} {x : Str} {p pos : Pos} {e1 : Expr} {m1 : Option α} (D : Df c x f) (h1 : De c env e1 m1) (hg : Gv c x := by rfl) (hdb : (x == ("__debug__" : Str)) = false := by decide)
    (he : ∀ env, starEach [e1] env = (false, eval e1 env) :: starEach [] env := by intro _; rfl) : De c env (.Call (.Name x p) [e1] [] pos) (m1.bind fun a1 => f (a1, ())) := (de_call D (dp_cons h1 dp_nil he) hg hdb he (fun _ => rfl)).of bind1
theorem de_call2 {f : α × β × Unit → Option R} {x : Str} {p pos : Pos} {e1 e2 : Expr} {m1 : Option α} {m2 : Option β} (D : Df c x f) (h1 : De c env e1 m1) (h2 : De c env e2 m2) (hg : Gv c x := by rfl) (hdb : (x == ("__debug__" : Str)) = false := by decide)
    (he : ∀ env, starEach [e1, e2] env = (false, eval e1 env) :: starEach [e2] env := by intro _; rfl) (he2 : ∀ env, starEach [e2] env = (false, eval e2 env) :: starEach [] env := by intro _; rfl) : De c env (.Call (.Name x p) [e1, e2] [] pos) (m1.bind fun a1 => m2.bind fun a2 => f (a1, a2, ())) :=
  (de_call D (dp_cons h1 (dp_cons h2 dp_nil he2) he) hg hdb he (fun _ => by rw [he2]; rfl)).of bind2
theorem de_call3 {f : α × β × γ × Unit → Option R} {x : Str} {p pos : Pos} {e1 e2 e3 : Expr} {m1 : Option α} {m2 : Option β} {m3 : Option γ} (D : Df c x f) (h1 : De c env e1 m1) (h2 : De c env e2 m2) (h3 : De c env e3 m3) (hg : Gv c x := by rfl) (hdb : (x == ("__debug__" : Str)) = false := by decide)
    (he : ∀ env, starEach [e1, e2, e3] env = (false, eval e1 env) :: starEach [e2, e3] env := by intro _; rfl) (he2 : ∀ env, starEach [e2, e3] env = (false, eval e2 env) :: starEach [e3] env := by intro _; rfl) (he3 : ∀ env, starEach [e3] env = (false, eval e3 env) :: starEach [] env := by intro _; rfl) :
    De c env (.Call (.Name x p) [e1, e2, e3] [] pos) (m1.bind fun a1 => m2.bind fun a2 => m3.bind fun a3 => f (a1, a2, a3, ())) :=
  (de_call D (dp_cons h1 (dp_cons h2 (dp_cons h3 dp_nil he3) he2) he) hg hdb he (fun _ => by rw [he2, he3]; rfl)).of bind3
def HasF (K : PySem.W.Frag) (f : Str) (g : α → β) : Prop := ∀ (B : Hp) (v : V) (x : α), rep K B v x → ∃ a C dx fs u, v = .ref a ∧ B a = some (.ins C dx fs) ∧ Cls K C ∧ NoAttr K C f ∧ fs.lookup f = some u ∧ rep K B u (g x)
theorem de_fld {g : α → β} {f : Str} {pos : Pos} {m : Option α} (hf : HasF c.K f g) (h : De c env o m) (hb : ∀ env, attributeBase o f env (eval o env) = eval o env := by intro _; rfl) : De c env (.Attribute o f pos) (m.map g) := by
  obtain ⟨t, h1, h2⟩ := h
  refine ⟨tFld c.K t f, fun X F => by rw [← F.K]; exact pe_fld (h1 X F) (hb _), fun z hz B H σ E Q q => ?_⟩
  cases m with
  | none => cases hz
  | some y =>
    cases hz
    refine h2 y rfl B H σ E _ fun v B1 H1 k1 r => ?_
    obtain ⟨a, C, dx, fs, u, rfl, e1, e2, e3, e4, r2⟩ := hf B1 v y r
    exact ⟨a, C, dx, fs, u, rfl, k1.bh a _ e1, e2, e3, e4, q u B1 H1 k1 r2⟩
structure Mt (c : Ct) (α : Type) [Rep α] (x : Str) {P R : Type} [Pk P] [Rep R] (f : α × P → Option R) : Prop where
  ok : ∃ (C : Addr) (j : Nat) (fa : Addr) (fd : FuncData) (ps : List Str), FnOk c.P c.w c.K c.mg c.base CX0 j fa fd ps (spF c.K f) ∧ j ≤ c.k ∧ Cls c.K C ∧ Meth c.K C x fa ∧ Binds c.K fd ps [] ∧
    ∀ (B : Hp) (v : V) (y : α), rep c.K B v y → ∃ a dx fs, v = .ref a ∧ B a = some (.ins C dx fs) ∧ fs.lookup x = none
theorem Mt.blk {x : Str} {P R : Type} [Pk P] [Rep R] {f : α × P → Option R} (D : Mt c α x f) (scope : Scope) : Mt (c.blk scope) α x f := ⟨D.ok⟩
inductive Pr2.{u, v} {A : Type u} {B : Type v} (F : A → B → Prop) : List A → List B → Prop where
  | nil : Pr2 F [] []
  | cons {x : A} {y : B} {xs : List A} {ys : List B} : F x y → Pr2 F xs ys → Pr2 F (x :: xs) (y :: ys)
theorem Pr2.imp.{u, v} {A : Type u} {B : Type v} {F G : A → B → Prop} {xs : List A} {ys : List B} (p : Pr2 F xs ys) (h : ∀ x y, F x y → G x y) : Pr2 G xs ys := by
  induction p with
  | nil => exact .nil
  | cons r _ ih => exact .cons (h _ _ r) ih
theorem Pr2.snoc.{u, v} {A : Type u} {B : Type v} {F : A → B → Prop} {l1 : List A} {l2 : List B} {x : A} {y : B} (p : Pr2 F l1 l2) (h : F x y) : Pr2 F (l1 ++ [x]) (l2 ++ [y]) := by
  induction p with
  | nil => exact .cons h .nil
  | cons r _ ih => exact .cons r ih
def FldOk (K : PySem.W.Frag) (B : Hp) (p : Str × V) (q : Str × Slot) : Prop := p.1 = q.1 ∧ SlotOk K B B (some (some p.2)) q.2 ∧ isOwn q.2 = false
def insφ (C y : Addr) (l : List (Str × Slot)) : PySem.W.Frag → Hp → Addr → HO → Prop := fun K B a o => a = y ∧ ∃ dx fs, o = .ins C dx fs ∧ Pr2 (FldOk K B) fs l
theorem SlotOk.monoV {K : PySem.W.Frag} {B B' : Hp} {v : V} {s : Slot} (e : Le B B') (n : isOwn s = false) (h : SlotOk K B B (some (some v)) s) : SlotOk K B' B' (some (some v)) s := by
  cases s with
  | any => trivial
  | @val α' i' x =>
    obtain ⟨u, e1, r⟩ := h
    exact ⟨u, e1, Rep.mono e r⟩
  | obj φ hm => cases n
  | deep ψ hm => trivial
theorem insφ_mono (C y : Addr) (l : List (Str × Slot)) : ∀ K B B' a o, Le B B' → insφ C y l K B a o → insφ C y l K B' a o := fun K B B' a o e ⟨ha, dx, fs, h, p⟩ => ⟨ha, dx, fs, h, p.imp fun _ _ ⟨q1, q2, q3⟩ => ⟨q1, q2.monoV e q3, q3⟩⟩
abbrev Slot.ins (C y : Addr) (l : List (Str × Slot)) : Slot := .obj (insφ C y l) (insφ_mono C y l)
theorem putF_new {f : Str} {v : V} : ∀ {fs : List (Str × V)}, f ∉ fs.map (·.1) → putF f v fs = fs ++ [(f, v)]
  | [], _ => rfl
  | (g, u) :: r, h => by
    have n : ¬ g = f := fun q => h (by rw [q]; exact List.mem_cons_self ..)
    have ih := putF_new (f := f) (v := v) (fs := r) fun q => h (List.mem_cons_of_mem _ q)
    show (if g = f then _ else _) = _
    rw [if_neg n, ih]
    rfl
theorem fld_names {K : PySem.W.Frag} {B : Hp} {fs : List (Str × V)} {l : List (Str × Slot)} (p : Pr2 (FldOk K B) fs l) : fs.map (·.1) = l.map (·.1) := by
  induction p with
  | nil => rfl
  | cons r _ ih => rw [List.map_cons, List.map_cons, ih, r.1]
end
section
variable {S L R : Type} [Rep R] {c : Ct} {env : List Slot} {rest : List Stmt} {e : Expr} {mk : S → List Slot} {lk : L → List Slot} {α : Type} [Rep α]
theorem ds_fld (i : Nat) {x f : Str} {C y0 : Addr} {l : List (Str × Slot)} {p1 p2 pos : Pos} {m : Option α} {k : α → Fl S L R} (hi : env[i]? = some (.ins C y0 l)) (hN : c.N[i]? = some x) (hv : Vis c.sc x) (hc : Cls c.K C) (hna : NoAttr c.K C f) (hl : l.length < 1000) (hf : f ∉ l.map (·.1))
    (h : De c env e m) (g : ∀ y, DeS c (env.set i (.ins C y0 (l ++ [(f, .val y)]))) rest mk lk (k y)) (hs : ∀ env : PySem.Env, env.scope = c.sc → swapsWith e (some (.Attribute (.Name x p1) f p2)) pos.line env = pure false) (hd : (x == ("__debug__" : Str)) = false := by decide) (hcd : (x == ("__classdict__" : Str)) = false := by decide) :
    DeS c env (.Assign [.Attribute (.Name x p1) f p2] e pos :: rest) mk lk (Fl.bindO m k) := .mk fun B0 H0 B H σ O D P => by
  obtain ⟨y, ey, P⟩ := post_bindO P
  obtain ⟨t, h1, h2⟩ := h
  refine cS_cons (t := sFld c.K (tVar i) t f) (fun X F => by rw [← F.K]; exact ps_fld (pe_var (fits_ix F hN) (fits_vis F hv) hd hcd) (h1 X F) (hs _ F.sc)) ?_
  refine h2 y ey B H σ O.en _ fun v B1 H1 k1 rv => ?_
  have O1 := O.grow k1
  obtain ⟨a, ob, e1, e2, e3, rfl, dx, fs, rfl, pr⟩ := O1.en.obj hi
  have nm := fld_names pr
  have ln : fs.length = l.length := by
    have := congrArg List.length nm
    simpa using this
  refine ⟨.ref a, e1, a, C, dx, fs, rfl, e2, hc, hna, by rw [ln]; exact hl, ?_⟩
  refine g y B0 H0 B1 _ σ (O1.change i hi e1 ⟨rfl, dx, _, rfl, ?_⟩) D (P.mono k1.b)
  rw [putF_new (by rw [nm]; exact hf)]
  exact pr.snoc ⟨rfl, ⟨v, rfl, rv⟩, rfl⟩
end
def spI (K : PySem.W.Frag) (C : Addr) {P R : Type} [Pk P] (fl : R → List (Str × Slot)) (f : P → Option R) : Sp := fun vs H Q _ => ∃ (p : P) (r : R) (B : Hp) (x dx : Addr) (ws : List V), vs = .ref x :: ws ∧ f p = some r ∧ Le B H ∧ Args K B ws (Pk.sl p) ∧ H x = some (.ins C dx []) ∧ B x = none ∧
  ∀ o B' H', Le B B' → Le B' H' → (∀ a u, a ≠ x → H a = some u → H' a = some u) → (∀ a, B a = none → ¬ H a = none → B' a = none) → H' x = some o → insφ C x (fl r) K B' x o → Q .non H'
theorem st_init {K : PySem.W.Frag} {Pp : Type} [Pk Pp] {C y dx : Addr} {B H : Hp} {N : List Str} {ws : List V} {p : Pp} (lB : Le B H) (ha : Args K B ws (Pk.sl p)) (hy : H y = some (.ins C dx [])) (by0 : B y = none) (hl : (V.ref y :: ws).length ≤ N.length) :
    StOk K B (fun a => if a = y then none else H a) B H (L2.start N (V.ref y :: ws)) (.ins C y [] :: (Pk.sl p ++ List.replicate (N.length - (Pk.sl p).length - 1) .any)) := by
  have lB0 : Le B (fun a => if a = y then none else H a) := fun a u z => by
    have n : a ≠ y := fun k => by rw [k, by0] at z; cases z
    show (if a = y then none else H a) = some u
    rw [if_neg n]
    exact lB a u z
  have l0 : Le (fun a => if a = y then none else H a) H := fun a u z => by
    have z : (if a = y then none else H a) = some u := z
    split at z
    · cases z
    · exact z
  have st0 := st_start (N := N) lB ha (Nat.le_trans (Nat.le_succ _) hl)
  have at0 : ∀ i : Nat, (L2.start N (V.ref y :: ws))[i + 1]? = (ws.map some ++ List.replicate (N.length - (ws.length + 1)) none)[i]? := fun i => rfl
  have O : StOk K B (fun a => if a = y then none else H a) B H (L2.start N (V.ref y :: ws)) (.ins C y [] :: (Pk.sl p ++ List.replicate (N.length - (Pk.sl p).length - 1) .any)) := by
    have key : ∀ (i : Nat) (s : Slot), (Pk.sl p ++ List.replicate (N.length - (Pk.sl p).length - 1) Slot.any)[i]? = some s → s = .any ∨ (i < (Pk.sl p).length ∧ (Pk.sl p)[i]? = some s) := fun i s h => by
      by_cases q : i < (Pk.sl p).length
      · rw [List.getElem?_append_left q] at h
        exact .inr ⟨q, h⟩
      · rw [List.getElem?_append_right (by omega)] at h
        exact .inl (List.eq_of_mem_replicate (List.mem_of_getElem? h))
    have no : ∀ (i : Nat) (s : Slot), (Slot.ins C y [] :: (Pk.sl p ++ List.replicate (N.length - (Pk.sl p).length - 1) Slot.any))[i]? = some s → isOwn s = true → i = 0 := fun i s h o => by
      cases i with
      | zero => rfl
      | succ i =>
        rcases key i s (by simpa using h) with rfl | ⟨_, h⟩
        · cases o
        · rw [(ha.get h).2] at o
          cases o
    refine ⟨⟨lB, ?_, fun i s h => ?_, fun i j s t h1 h2 o1 o2 _ => ?_⟩, ⟨Le.refl _, lB, l0, fun _ z _ => z⟩, fun i s a h o e => ?_, fun i ψ hm h => by
      cases i with
      | zero => cases h
      | succ i =>
        rcases key i _ (by simpa using h) with z | ⟨_, h⟩
        · cases z
        · exact absurd h (ha.noDeep i ψ hm)⟩
    · rw [start_len hl, List.length_cons, List.length_append, List.length_replicate]
      rw [List.length_cons, ha.len] at hl
      omega
    · cases i with
      | zero =>
        cases h
        exact ⟨y, _, rfl, hy, by0, rfl, dx, [], rfl, .nil⟩
      | succ i =>
        rcases key i s (by simpa using h) with rfl | ⟨q, h⟩
        · trivial
        · rw [at0, List.getElem?_append_left (by rw [List.length_map, ha.len]; exact q)]
          have z := (ha.get h).1
          cases s with
          | any => trivial
          | @val α' i' x => exact z
          | obj φ hm =>
            have := (ha.get h).2
            cases this
          | deep ψ hm => trivial
    · rw [no i s h1 o1, no j t h2 o2]
    · have e0 := no i s h o
      subst e0
      cases e
      show (if y = y then none else H y) = none
      rw [if_pos rfl]
  exact O
theorem init_ok {P : Program} {w : World} {K : PySem.W.Frag} {mg : Str → Option Value} {base : Heap} {Pp S L R : Type} [Pk Pp] {x qual : Str} {st : Stmt} {f C : Addr} {fd : FuncData} {N ps : List Str} {k : Nat} {mk : Addr → S → List Slot} {lk : L → List Slot} {m : Pp → Fl S L Unit} {fl : R → List (Str × Slot)} {r : S → R}
    (F : Fun K x qual st f fd) (Sc : FnScope N ps (defScope st)) (np : ps.length ≤ N.length) (hn : ∀ p : Pp, (Pk.sl p).length + 1 = ps.length) (hmk : ∀ y s, (mk y s)[0]? = some (.ins C y (fl (r s))))
    (hb : ∀ (p : Pp) (y : Addr), DeS (ctOf P w K mg base k N (defScope st)) (.ins C y [] :: (Pk.sl p ++ List.replicate (N.length - (Pk.sl p).length - 1) .any)) (defBody st) (mk y) lk (m p)) :
    FnOk P w K mg base CX0 (k + 1) f fd ps (spI K C fl fun p => match m p with | .nx s => some (r s) | _ => none) := by
  refine F.ok Sc (fun vs H Q E h => ?_) (fun cdv A outer s H vs Q E hr h => ?_)
  · obtain ⟨p, r, B, y, dx, ws, rfl, _, _, ha, _⟩ := h
    rw [List.length_cons, ha.len, hn p]
  · obtain ⟨p, r', B, y, dx, ws, rfl, hf, lB, ha, hy, by0, q⟩ := h
    have hl : (V.ref y :: ws).length ≤ N.length := by
      rw [List.length_cons, ha.len, hn p]
      exact np
    refine ⟨_, cS_ps _ (fits_def hr), ?_⟩
    have O := st_init (C := C) (N := N) (p := p) lB ha hy by0 hl
    refine hb p y B _ B H _ O _ ?_
    replace hf : (match m p with | .nx s => some (r s) | _ => none) = some r' := hf
    cases hm : m p with
    | err => rw [hm] at hf; cases hf
    | nx s' =>
      rw [hm] at hf
      cases hf
      intro B' H' σ' lb O'
      obtain ⟨a, o, e1, e2, e3, e4⟩ := O'.en.obj (hmk y s')
      obtain ⟨rfl, _⟩ := id e4
      refine q o B' H' lb O'.en.bh (fun b u n z => O'.g.h b u ?_) (fun b z n => ?_) e2 e4
      · show (if b = a then none else H b) = some u
        rw [if_neg n]
        exact z
      · by_cases k : b = a
        · rw [k]
          exact e3
        · refine O'.g.f b z fun t => n ?_
          have t : (if b = a then none else H b) = none := t
          rw [if_neg k] at t
          exact t
    | rt r' => rw [hm] at hf; cases hf
    | bk s' => rw [hm] at hf; cases hf
    | ct s' => rw [hm] at hf; cases hf
end Dn

set_option Elab.async false
set_option linter.all false
set_option maxRecDepth 100000
namespace Dn
open PySem PySem.Spec L2
open Rep (rep)
open ORep (orep)
section
variable {c : Ct} {env : List Slot} {e a b d elt iter tg t : Expr} {es : List Expr} {α β γ R : Type} [Rep α] [Rep β] [Rep γ] [Rep R]
theorem sw_cell {gs : List Comprehension} {scope : Scope} {pos py : Pos} {y : Str} {l : Nat} {sc : Scope} (hy : sc.names.lookup y = some .cell) : ∀ env : PySem.Env, env.scope = sc → swapsWith (.ListComp elt gs scope pos) (some (.Name y py)) l env = pure false := by
  intro env h
  have k : env.kindOf y = some .cell := by
    show env.scope.names.lookup y = some .cell
    rw [h]
    exact hy
  have z : (NameKind.cell == NameKind.local) = false := by decide
  unfold swapsWith
  simp [k, z]
theorem as_comp (i : Nat) {y : Str} {py pos spos : Pos} {scope : Scope} {own : List (Str × Nat)} {is : List Nat} {f : α → List Slot → List Slot} {m : Option (List α)} {h : α → Option γ} (nd : c.N.Nodup) (hN : c.N[i]? = some y) (hy : c.sc.names.lookup y = some .local) (hk : c.sc.kind = .function) (hl : (py.line == pos.line) = true)
    (hn : (scope.names.any fun (n, k) => n == y && (k == .local || k == .cell)) = false) (hi : DeIt c env iter m) (ok : BlkOk c.N c.sc scope own) (hg : DeTg (c.blk scope) tg f is) (sub : ∀ i ∈ is, i ∈ own.map (·.2))
    (he : ∀ x, De (c.blk scope) (f x (wipeE env (own.map (·.2)))) elt (h x)) (hs : ∀ env x, foldedSetIterable iter env x = pure x := by intro _ _; rfl) :
    AsN c env (.Assign [.Name y py] (.ListComp elt [⟨tg, iter, [], 0⟩] scope pos) spos) i (m.bind fun xs => (capI xs).bind fun xs => mapO h xs) := by
  obtain ⟨wi, i1, i2⟩ := hi
  obtain ⟨g, g1, g2⟩ := hg
  refine ⟨_, fun X F => ps_setLc F.calm (by rw [F.N]; exact nd) (fits_ix F hN) (by rw [F.sc]; exact hy) (sw_true (by rw [F.sc]; exact hk) (by rw [F.sc]; exact hy) hl hn) (i1 X F tg) (by rw [F.N, F.sc]; exact ok) (fun s H C cl fp => g1 _ (F.blk s H scope C cl fp)) (fun s H C cl fp => pts_nil) (fun s H C cl fp => cE_pe _ (F.blk s H scope C cl fp)) (hs _), fun z hz => ?_⟩
  obtain ⟨xs, ex, hz⟩ := bind_some hz
  obtain ⟨xs', hc, hz⟩ := bind_some hz
  unfold capI at hc
  split at hc
  · rename_i hl
    cases hc
    rw [← mapO_comp] at hz
    refine ev_comp (i2 xs ex) g2 sub (fun x o eo B H σ E Q q => ?_) (fun x y ey => (he x).can y ?_) (of_decide_eq_true hl) hz
    · cases o with
      | none =>
        cases g : h x with
        | none => rw [g] at eo; cases eo
        | some y => rw [g] at eo; cases eo
      | some y => exact q B H (Grow.refl E.bh)
    · cases g : h x with
      | none => rw [g] at ey; cases ey
      | some y' => rw [g] at ey; cases ey; rfl
  · cases hc
structure Md (c : Ct) (x : Str) (C : Addr) {P R : Type} [Pk P] (fl : R → List (Str × Slot)) (f : P → Option R) : Prop where
  ok : ∃ (j : Nat) (fa : Addr) (fd : FuncData) (ps : List Str), FnOk c.P c.w c.K c.mg c.base CX0 j fa fd ps (spI c.K C fl f) ∧ j + 1 ≤ c.k ∧ c.mg x = some (.ref C) ∧ Mk c.K C fa ∧ Binds c.K fd ps []
theorem de_make {P : Type} [Pk P] {C : Addr} {fl : R → List (Str × Slot)} {f : P → Option R} {x : Str} {p pos : Pos} {m : Option P} (D : Md c x C fl f) (hr : ∀ (B : Hp) (a dx : Addr) (fs : List (Str × V)) (r : R), B a = some (.ins C dx fs) → Pr2 (FldOk c.K B) fs (fl r) → rep c.K B (.ref a) r)
    (h : DeP c env (e :: es) m) (hg : Gv c x := by rfl) (hdb : (x == ("__debug__" : Str)) = false := by decide) (he : ∀ env, starEach (e :: es) env = (false, eval e env) :: starEach es env := by intro _; rfl) (hpl : ∀ env, (backTo pos (starEach es env)).any (·.1) = false := by intro _; rfl) :
    De c env (.Call (.Name x p) (e :: es) [] pos) (m.bind f) := by
  obtain ⟨j, fa, fd, ps, F, hj, hm, mk, hb⟩ := D.ok
  obtain ⟨t, h1, h2⟩ := h
  refine ⟨tMake C (spI c.K C fl f) [] E0 t, fun X Fx => ?_, fun z hz B H σ E Q q => ?_⟩
  · refine pe_make (CX := CX0) (k := j) (f := fa) (fd := fd) (ps := ps) (ds := []) (by rw [Fx.K]; exact mk) ?_ (Fx.room.mono hj) (fits_gl Fx hg) (by rw [Fx.mg]; exact hm) (by rw [Fx.K]; exact hb) .nil pass0 (h1 X Fx) hdb (he _) (hpl _)
    rw [Fx.P, Fx.w, Fx.K, Fx.mg, Fx.base]
    exact F
  · obtain ⟨y, ey, hz⟩ := bind_some hz
    refine h2 y ey B H σ E _ fun vs B1 H1 k1 ha x dx nx nd ne => ?_
    rw [List.append_nil]
    have ex : ∀ u, u ≠ x → u ≠ dx → (upd (upd H1 dx (.own x)) x (.ins C dx [])) u = H1 u := fun u h1 h2 => by rw [upd_ne h1, upd_ne h2]
    have l1 : Le H1 (upd (upd H1 dx (.own x)) x (.ins C dx [])) := fun u o z => by
      rw [ex u (fun k => by rw [k, nx] at z; cases z) (fun k => by rw [k, nd] at z; cases z)]
      exact z
    refine ⟨y, z, B1, x, dx, vs, rfl, hz, k1.bh.trans l1, ha, upd_same, k1.bh.none nx, fun o B2 H2 b12 b2 hh hf ho hi => ⟨rfl, ?_⟩⟩
    obtain ⟨_, dx', fs, rfl, pr⟩ := id hi
    have nb2 : B2 x = none := hf x (k1.bh.none nx) (by rw [upd_same]; exact fun z => nomatch z)
    have lB : Le (upd B2 x (.ins C dx' fs)) H2 := fun u o z => by
      by_cases k : u = x
      · rw [k, upd_same] at z
        rw [k, ho, z]
      · rw [upd_ne k] at z
        exact b2 u o z
    refine q (.ref x) (upd B2 x (.ins C dx' fs)) H2 (k1.trans ⟨b12.trans (Le.put nb2), lB, fun u o z => hh u o (fun k => by rw [k, nx] at z; cases z) (l1 u o z), fun u z n => ?_⟩) (hr _ x dx' fs z upd_same (pr.imp fun _ _ ⟨q1, q2, q3⟩ => ⟨q1, q2.monoV (Le.put nb2) q3, q3⟩))
    rw [upd_ne (fun k => n (by rw [k]; exact nx))]
    refine hf u z fun w => n ?_
    rw [ex u (fun k => n (by rw [k]; exact nx)) (fun k => n (by rw [k]; exact nd))] at w
    exact w
end
section
variable {S L R : Type} [Rep R] {c : Ct} {env : List Slot} {rest : List Stmt} {e i : Expr} {mk : S → List Slot} {lk : L → List Slot} {α : Type} [Rep α]
end
end Dn

set_option Elab.async false
set_option linter.all false
set_option maxRecDepth 100000
namespace Dn
open PySem PySem.Spec L2
open Rep (rep)
open ORep (orep)
section
variable {c : Ct} {env : List Slot} {e a b d : Expr} {es : List Expr} {α β γ δ ε ζ R : Type} [Rep α] [Rep β] [Rep γ] [Rep δ] [Rep ε] [Rep ζ] [Rep R]
structure Cmp (c : Ct) (op : CmpOp) (f : α → β → Option Bool) : Prop where
  ok : ∃ r, (∀ X, Fits c X → OpR X (compareOp op) r) ∧ OpS c.K r f
theorem cmp_lt : Cmp c .Lt (fun x y : Int => some (decide (x < y))) := ⟨_, fun _ _ => op_lt, ops_B0⟩
theorem cmp_le : Cmp c .LtE (fun x y : Int => some (decide (x ≤ y))) := ⟨_, fun _ _ => op_le, ops_B0⟩
theorem cmp_gt : Cmp c .Gt (fun x y : Int => some (decide (y < x))) := ⟨_, fun _ _ => op_gt, ops_B0 (g := fun x y => decide (y < x))⟩
theorem cmp_ge : Cmp c .GtE (fun x y : Int => some (decide (y ≤ x))) := ⟨_, fun _ _ => op_ge, ops_B0 (g := fun x y => decide (y ≤ x))⟩
theorem cmp_eqI : Cmp c .Eq (fun x y : Int => some (decide (x = y))) := ⟨_, fun _ _ => op_eq, fun x y z hz B H v u hB r1 r2 Q q => by
  cases hz; cases r1; cases r2
  refine ⟨rfl, q _ B H (Grow.refl hB) ?_⟩
  show V.bl _ = V.bl _
  rw [dec_int, Bool.beq_eq_decide_eq]⟩
theorem cmp_neI : Cmp c .NotEq (fun x y : Int => some (!decide (x = y))) := ⟨_, fun _ _ => op_ne, fun x y z hz B H v u hB r1 r2 Q q => by
  cases hz; cases r1; cases r2
  refine ⟨rfl, q _ B H (Grow.refl hB) ?_⟩
  show V.bl _ = V.bl _
  rw [dec_int, Bool.beq_eq_decide_eq]⟩
theorem cmp_eqS : Cmp c .Eq (fun x y : Str => some (decide (x = y))) := ⟨_, fun _ _ => op_eq, fun x y z hz B H v u hB r1 r2 Q q => by
  cases hz; cases r1; cases r2
  refine ⟨rfl, q _ B H (Grow.refl hB) ?_⟩
  show V.bl _ = V.bl _
  rw [dec_str, Bool.beq_eq_decide_eq]⟩
theorem cmp_neS : Cmp c .NotEq (fun x y : Str => some (!decide (x = y))) := ⟨_, fun _ _ => op_ne, fun x y z hz B H v u hB r1 r2 Q q => by
  cases hz; cases r1; cases r2
  refine ⟨rfl, q _ B H (Grow.refl hB) ?_⟩
  show V.bl _ = V.bl _
  rw [dec_str, Bool.beq_eq_decide_eq]⟩
theorem cmp_eqD {α : Type} [Dat α] : Cmp c .Eq (fun x y : α => eqI x y) := ⟨rEqD c.K, fun X F => by rw [← F.K]; exact op_eqD (fits_units F), fun x y z hz B H v u hB r1 r2 Q q => by
  replace hz : eqI x y = some z := hz
  unfold eqI at hz
  split at hz
  · rename_i h
    cases hz
    simp only [Bool.and_eq_true, decide_eq_true_eq] at h
    refine ⟨_, _, Dat.dp (Rep.mono hB r1), Dat.dp (Rep.mono hB r2), lay_sh h.1.1 h.2, lay_sh h.1.2 h.2, ?_⟩
    rw [Dat.eqv]
    refine q _ B H (Grow.refl hB) ?_
    show V.bl _ = V.bl _
    exact congrArg V.bl (decide_eq_decide.mpr Iff.rfl)
  · cases hz⟩
theorem cmp_inS : Cmp c .In (fun x y : Str => inS x y) := ⟨_, fun _ _ => op_in_str, fun x y z hz B H v u hB r1 r2 Q q => by
  cases hz; cases r1; cases r2
  exact ⟨x, y, rfl, rfl, q _ B H (Grow.refl hB) rfl⟩⟩
theorem cmp_ninS : Cmp c .NotIn (fun x y : Str => (inS x y).map (!·)) := ⟨_, fun _ _ => op_notin_str, fun x y z hz B H v u hB r1 r2 Q q => by
  cases hz; cases r1; cases r2
  exact ⟨x, y, rfl, rfl, q _ B H (Grow.refl hB) rfl⟩⟩
theorem inq {α : Type} [Flat α] [DecidableEq α] {K : PySem.W.Frag} {B : Hp} {v u : V} {vs : List V} {x : α} {ys : List α} (r1 : rep K B v x) (r : Reps K B vs ys) : flatV v = true ∧ vs.all flatV = true ∧ inV v vs = decide (x ∈ ys) := by
  have e := Flat.is r1
  subst e
  have e := r.flat
  subst e
  exact ⟨Flat.flat x, flat_all ys, inV_map x ys⟩
theorem cmp_ninU {α : Type} [Flat α] [DecidableEq α] : Cmp c .NotIn (fun (x : α) (y : Tup α) => some (!decide (x ∈ y.l))) := ⟨rIn c.K true, fun X F => by rw [← F.K]; exact op_notIn_seq, fun x y z hz B H v u hB r1 r2 Q q => by
  cases hz
  obtain ⟨p, vs, rfl, s, r⟩ := r2
  obtain ⟨h1, h2, h3⟩ := inq (u := .ref p) r1 r
  refine ⟨p, vs, rfl, .inr (hB.t s), h1, h2, ?_⟩
  show Q (.bl (!inV _ _)) H
  rw [h3]
  exact q _ B H (Grow.refl hB) rfl⟩
theorem de_c {op : CmpOp} {pos : Pos} {f : α → β → Option Bool} {ma : Option α} {mb : Option β} (C : Cmp c op f) (ha : De c env a ma) (hb : De c env b mb) (hm : behindInMarks op b = false := by first | exact nomark _ | rfl) :
    De c env (.Compare a [op] [b] pos) (ma.bind fun x => mb.bind fun y => f x y) := by
  obtain ⟨r, h1, h2⟩ := C.ok
  exact de_cmp h1 h2 ha hb hm
theorem dt_c1 {op : CmpOp} {pos : Pos} {f : α → β → Option Bool} {ma : Option α} {mb : Option β} (C : Cmp c op f) (ha : De c env a ma) (hb : De c env b mb) (hm : behindInMarks op b = false := by first | exact nomark _ | rfl) :
    DeT c env (.Compare a [op] [b] pos) (ma.bind fun x => mb.bind fun y => f x y) := by
  obtain ⟨r, h1, h2⟩ := C.ok
  exact dt_cmp h1 h2 ha hb hm
def chO {α β γ : Type} (f : α → β → Option Bool) (g : β → γ → Option Bool) (ma : Option α) (mb : Option β) (mc : Option γ) : Option Bool := ma.bind fun x => mb.bind fun y => (f x y).bind fun k => if k = true then mc.bind fun z => g y z else some false
theorem ev_chain {K : PySem.W.Frag} {r r' : R2} {f : α → β → Option Bool} {g : β → γ → Option Bool} {ta tb tc : TE} {ma : Option α} {mb : Option β} {mc : Option γ} {k : Bool} (hr : OpS K r f) (hr' : OpS K r' g) (h1 : ∀ x, ma = some x → EvE K env ta x) (h2 : ∀ x, mb = some x → EvE K env tb x) (h3 : ∀ x, mc = some x → EvE K env tc x)
    (hz : chO f g ma mb mc = some k) : EvE K env (tChain r r' ta tb tc) k := fun B H σ E Q q => by
  obtain ⟨x, ex, hz⟩ := bind_some hz
  obtain ⟨y, ey, hz⟩ := bind_some hz
  obtain ⟨j, ej, hz⟩ := bind_some hz
  refine h1 x ex B H σ E _ fun v B1 H1 k1 r1 => h2 y ey B1 H1 σ (E.grow k1) _ fun u B2 H2 k2 r2 => hr x y j ej B2 H2 v u k2.bh (Rep.mono k2.b r1) r2 _ fun w B3 H3 k3 r3 => ?_
  cases r3
  have g3 := (k1.trans k2).trans k3
  refine ⟨j, rfl, ?_⟩
  cases j with
  | true =>
    obtain ⟨z, ez, hz⟩ := bind_some hz
    exact iteT (h3 z ez B3 H3 σ (E.grow g3) _ fun w4 B4 H4 k4 r4 => hr' y z k hz B4 H4 u w4 k4.bh (Rep.mono (k3.b.trans k4.b) r2) r4 Q fun w5 B5 H5 k5 r5 => q w5 B5 H5 ((g3.trans k4).trans k5) r5)
  | false =>
    cases hz
    exact iteF (q _ B3 H3 g3 rfl)
theorem de_chain {op op' : CmpOp} {pos : Pos} {f : α → β → Option Bool} {g : β → γ → Option Bool} {ma : Option α} {mb : Option β} {mc : Option γ} (C : Cmp c op f) (C' : Cmp c op' g) (ha : De c env a ma) (hb : De c env b mb) (hd : De c env d mc) (hm : lastMarks [op, op'] [b, d] = false := by with_unfolding_all rfl) :
    De c env (.Compare a [op, op'] [b, d] pos) (chO f g ma mb mc) := by
  obtain ⟨r, c1, c2⟩ := C.ok
  obtain ⟨r', d1, d2⟩ := C'.ok
  obtain ⟨ta, a1, a2⟩ := ha
  obtain ⟨tb, b1, b2⟩ := hb
  obtain ⟨tc, e1, e2⟩ := hd
  exact ⟨_, fun X F => pe_chain (c1 X F) (d1 X F) (a1 X F) (b1 X F) (e1 X F) hm, fun z hz => ev_chain c2 d2 a2 b2 e2 hz⟩
theorem dt_chain {op op' : CmpOp} {pos : Pos} {f : α → β → Option Bool} {g : β → γ → Option Bool} {ma : Option α} {mb : Option β} {mc : Option γ} (C : Cmp c op f) (C' : Cmp c op' g) (ha : De c env a ma) (hb : De c env b mb) (hd : De c env d mc) (hm : lastMarks [op, op'] [b, d] = false := by with_unfolding_all rfl) :
    DeT c env (.Compare a [op, op'] [b, d] pos) (chO f g ma mb mc) := by
  obtain ⟨r, c1, c2⟩ := C.ok
  obtain ⟨r', d1, d2⟩ := C'.ok
  obtain ⟨ta, a1, a2⟩ := ha
  obtain ⟨tb, b1, b2⟩ := hb
  obtain ⟨tc, e1, e2⟩ := hd
  refine ⟨_, fun X F => pt_chain (c1 X F) (d1 X F) (a1 X F) (b1 X F) (e1 X F) hm, fun z hz B H σ E Q q => ev_chain c2 d2 a2 b2 e2 hz B H σ E _ fun v B' H' g r => ?_⟩
  cases r
  exact ⟨z, rfl, q B' H' g⟩
end
structure Tf (K : PySem.W.Frag) (mg : Str → Option Value) (x : Str) (st : Stmt) (ps : List Str) : Prop where
  ok : ∃ (fa : Addr) (fd : FuncData), mg x = some (.ref fa) ∧ Fun K x x st fa fd ∧ Binds K fd ps []
structure Gd (P : Program) (w : World) (K : PySem.W.Frag) (mg : Str → Option Value) (base : Heap) (j : Nat) (x : Str) {Q R : Type} [Pk Q] [Rep R] (f : Q → Option R) : Prop where
  ok : ∃ (fa : Addr) (fd : FuncData) (ps : List Str), FnOk P w K mg base CX0 j fa fd ps (spF K f) ∧ mg x = some (.ref fa) ∧ PySem.W.keepIn K (.ref fa) = true ∧ Binds K fd ps []
theorem Gd.df {P : Program} {w : World} {K : PySem.W.Frag} {mg : Str → Option Value} {base : Heap} {j : Nat} {x : Str} {Q R : Type} [Pk Q] [Rep R] {f : Q → Option R} (G : Gd P w K mg base j x f) {c : Ct} (hP : c.P = P := by rfl) (hw : c.w = w := by rfl) (hK : c.K = K := by rfl) (hmg : c.mg = mg := by rfl) (hb : c.base = base := by rfl) (hj : j ≤ c.k := by exact Nat.le_of_ble_eq_true rfl) : Df c x f := by
  obtain ⟨P', w', K', mg', base', k, N, sc, fn, df⟩ := c
  cases hP; cases hw; cases hK; cases hmg; cases hb
  obtain ⟨fa, fd, ps, h1, h2, h3, h4⟩ := G.ok
  exact ⟨j, fa, fd, ps, h1, hj, h2, h3, h4⟩
theorem Tf.gd {P : Program} {w : World} {K : PySem.W.Frag} {mg : Str → Option Value} {base : Heap} {x : Str} {st : Stmt} {Pp S L R : Type} [Pk Pp] [Rep R] {N ps : List Str} {k : Nat} {mk : S → List Slot} {lk : L → List Slot} {m : Pp → Fl S L R} {en : Option R} (T : Tf K mg x st ps) (Sc : FnScope N ps (defScope st)) (np : ps.length ≤ N.length)
    (hn : ∀ p : Pp, (Pk.sl p).length = ps.length) (hen : ∀ r, en = some r → ∀ B, rep K B .non r)
    (hb : ∀ p : Pp, DeS (ctOf P w K mg base k N (defScope st)) (Pk.sl p ++ List.replicate (N.length - (Pk.sl p).length) .any) (defBody st) mk lk (m p)) : Gd P w K mg base (k + 1) x (fun p => (m p).fin en) := by
  obtain ⟨fa, fd, hm, F, hb'⟩ := T.ok
  exact ⟨fa, fd, ps, fn_ok F Sc np hn hen hb, hm, F.kp, hb'⟩
end Dn

set_option Elab.async false
set_option linter.all false
set_option maxRecDepth 100000
namespace Dn
open PySem PySem.Spec L2
open Rep (rep)
open ORep (orep)
section
variable {X : Cx}
def rCat0 (K : PySem.W.Frag) : R2 := fun x y H Q => ∃ a b xs ys, x = .ref a ∧ y = .ref b ∧ SqT K H a xs ∧ SqT K H b ys ∧ xs.length + ys.length ≤ sizeLine ∧
  (xs = [] → Q (.ref b) H) ∧ (xs ≠ [] → ys = [] → Q (.ref a) H) ∧ (xs ≠ [] → ys ≠ [] → ∀ p, H p = none → Q (.ref p) (upd H p (.tup (xs ++ ys))))
theorem op_cat0 : OpR X (binaryOp .Add) (rCat0 X.K) := by
  intro pins s σ H x y v u Q I rx ry h
  obtain ⟨a, b, xs, ys, rfl, rfl, ha, hb, hz, q0, q1, q2⟩ := h
  by_cases hx : xs = []
  · cases rx
    cases ry
    obtain ⟨its, r1, p1, _⟩ := I.tuple ha
    obtain ⟨its2, r2, p2, _⟩ := I.tuple hb
    obtain ⟨⟨cls, dd, data, sl⟩, ho, hc, n, hd⟩ := id p1
    obtain ⟨⟨cls2, dd2, data2, sl2⟩, ho2, hc2, n2, hd2⟩ := id p2
    simp only at hc hd hc2 hd2
    subst hc hd hc2 hd2
    have e : its = [] := r1.nil_iff.mpr hx
    exact concat_meets ⟨_, ho, rfl⟩ ⟨_, ho2, rfl⟩ noFill_tuple_add seq_tuple_add PySem.F.slot_tuple_add PySem.F.entry_tuple_add (PySem.F.args_tuple_add_2 _ _)
      (PyProof.Rows.tuple_addW0 a b its.toArray its2.toArray n n2 dd dd2 sl sl2 (by rw [e]; rfl)) ⟨ho, ho2, ⟨.ref b, H, I, rfl, q0 hx⟩⟩
  · exact op_catT pins s σ H (.ref a) (.ref b) v u Q I rx ry ⟨a, b, xs, ys, rfl, rfl, ha, hb, hx, hz, q1 hx, q2 hx⟩
end
section
variable {c : Ct} {env : List Slot} {e a b d elt iter tg iter1 tg1 : Expr} {es : List Expr} {α β γ δ : Type} [Rep α] [Rep β] [Rep γ] [Rep δ]
def catU {α : Type} (x y : Tup α) : Option (Tup α) := if len1 (x.l.length + y.l.length) = true then some ⟨x.l ++ y.l⟩ else none
theorem ops_cat : OpS c.K (rCat0 c.K) (catU (α := α)) := fun x y z hz B H v u hB r1 r2 Q q => by
  unfold catU at hz
  split at hz
  · rename_i hl
    cases hz
    obtain ⟨p1, vs, rfl, s1, r1⟩ := r1
    obtain ⟨p2, ws, rfl, s2, r2⟩ := r2
    have l1 := r1.len
    have l2 := r2.len
    refine ⟨p1, p2, vs, ws, rfl, rfl, hB.t s1, hB.t s2, by rw [l1, l2]; exact len1_ok hl, fun e => ?_, fun _ e => ?_, fun _ _ p hp => ?_⟩
    · subst e
      have e2 : x.l = [] := List.length_eq_zero_iff.mp l1.symm
      refine q (.ref p2) B H (Grow.refl hB) ⟨p2, ws, rfl, s2, ?_⟩
      show Reps c.K B ws (x.l ++ y.l)
      rw [e2]
      exact r2
    · subst e
      have e2 : y.l = [] := List.length_eq_zero_iff.mp l2.symm
      refine q (.ref p1) B H (Grow.refl hB) ⟨p1, vs, rfl, s1, ?_⟩
      show Reps c.K B vs (x.l ++ y.l)
      rw [e2, List.append_nil]
      exact r1
    · exact q (.ref p) _ _ (Grow.new hB hp) ⟨p, vs ++ ws, rfl, SqT.of upd_same, (r1.append r2).mono (Le.put (hB.none hp))⟩
  · cases hz
theorem de_catU {pos : Pos} {ma mb : Option (Tup α)} (ha : De c env a ma) (hb : De c env b mb) : De c env (.BinOp a .Add b pos) (ma.bind fun x => mb.bind fun y => catU x y) :=
  de_op (r := rCat0 c.K) (fun X F => by rw [← F.K]; exact op_cat0) ops_cat ha hb
def mapO2 {α β γ : Type} (f : α → Option (List β)) (h : α → β → Option γ) (xs : List α) : Option (List γ) := (mapO (fun x => (f x).bind fun ys => mapO (h x) ys) xs).map List.flatten
theorem mapO_len {α γ : Type} {h : α → Option γ} : ∀ {xs : List α} {ys : List γ}, mapO h xs = some ys → ys.length = xs.length
  | [], ys, e => by cases e; rfl
  | x :: xs, ys, e => by
    obtain ⟨y, e1, e⟩ := bind_some e
    obtain ⟨zs, e2, e⟩ := bind_some e
    cases e
    rw [List.length_cons, List.length_cons, mapO_len e2]
theorem mapO_at {α γ : Type} {h : α → Option γ} : ∀ {xs : List α} {ys : List γ} {i : Nat} {x : α}, mapO h xs = some ys → xs[i]? = some x → ∃ y, h x = some y ∧ ys[i]? = some y
  | [], ys, i, x, e, ex => by simp at ex
  | z :: xs, ys, i, x, e, ex => by
    obtain ⟨y, e1, e⟩ := bind_some e
    obtain ⟨zs, e2, e⟩ := bind_some e
    cases e
    cases i with
    | zero =>
      simp at ex
      subst ex
      exact ⟨y, e1, rfl⟩
    | succ i =>
      simp at ex
      obtain ⟨w, h1, h2⟩ := mapO_at e2 ex
      exact ⟨w, h1, by simpa using h2⟩
def cI (c : Ct) (e : Expr) : TI := fun σ H R => ∀ X, Fits c X → ∀ tg pins s, Inv X pins σ H s → wpAny (model X.prog X.w) X.A (eval e X.env) (fun v s1 => wpAny (model X.prog X.w) X.A (pyIter v) (PIE X pins σ tg R) X.xe s1) X.xe s
theorem cI_pi {c : Ct} {e : Expr} : ∀ X, Fits c X → ∀ tg, PI X tg e (cI c e) := fun X F tg => ⟨fun pins s σ H R I h => h X F tg pins s I⟩
theorem DeIt.can {m : Option (List α)} (h : DeIt c env e m) : ∀ xs, m = some xs → ∀ (B H : Hp) (σ : St), Env c.K B H σ env → ∀ R : It → Hp → Prop, (∀ J B' H', Grow B H B' H' → DWalk c.K B' J xs → R J H') → cI c e σ H R := fun xs hx B H σ E R q X F tg pins s I => by
  obtain ⟨wi, h1, h2⟩ := h
  exact (h1 X F tg).run pins s σ H R I (h2 xs hx B H σ E R q)
theorem flat_take {γ : Type} : ∀ {yss : List (List γ)} {i : Nat} {ys : List γ}, yss[i]? = some ys → (yss.take (i + 1)).flatten = (yss.take i).flatten ++ ys
  | [], i, ys, e => by simp at e
  | z :: zs, 0, ys, e => by
    simp at e
    subst e
    simp
  | z :: zs, i + 1, ys, e => by
    simp at e
    have ih := flat_take e
    rw [List.take_succ_cons, List.take_succ_cons, List.flatten_cons, List.flatten_cons, ih, List.append_assoc]
theorem flat_le {γ : Type} (yss : List (List γ)) (i : Nat) : (yss.take i).flatten.length ≤ yss.flatten.length := by
  have e : yss.flatten = (yss.take i).flatten ++ (yss.drop i).flatten := by rw [← List.flatten_append, List.take_append_drop]
  rw [e, List.length_append]
  omega
theorem Env.put {K : PySem.W.Frag} {B H : Hp} {σ : St} {env : List Slot} {D : Addr} {o : HO} (E : Env K B H σ env) (nD : B D = none) (ne : ∀ (i : Nat) (s : Slot) (a : Addr), env[i]? = some s → isOwn s = true → σ[i]? = some (some (.ref a)) → a ≠ D) : Env K B (upd H D o) σ env :=
  ⟨fun a u z => by
    rw [upd_ne (fun k => by rw [k, nD] at z; cases z)]
    exact E.bh a u z, E.len, fun i s h => by
    have z := E.at_ i s h
    cases s with
    | any => trivial
    | @val α' i' x => exact z
    | obj φ hm =>
      obtain ⟨a, ob, e1, e2, e3, e4⟩ := z
      exact ⟨a, ob, e1, by rw [upd_ne (ne i _ a h rfl e1)]; exact e2, e3, e4⟩
    | deep ψ hm => trivial, E.ap⟩
theorem ev_comp2 {K : PySem.W.Frag} {wi wi1 : TI} {g g1 : TG} {te : TE} {vs vs1 is js : List Nat} {f : α → List Slot → List Slot} {f1 : β → List Slot → List Slot} {xs : List α} {zs : List γ} {inner : α → Option (List β)} {h : α → β → Option γ}
    (hi : ∀ (B H : Hp) (σ : St), Env K B H σ env → ∀ R : It → Hp → Prop, (∀ J B' H', Grow B H B' H' → DWalk K B' J xs → R J H') → wi σ H R) (hg : TgS K g f is) (sub : ∀ i ∈ is, i ∈ vs)
    (hi1 : ∀ x ys, inner x = some ys → ∀ (B H : Hp) (σ : St), Env K B H σ (f x (wipeE env vs)) → ∀ R : It → Hp → Prop, (∀ J B' H', Grow B H B' H' → DWalk K B' J ys → R J H') → wi1 σ H R) (hg1 : TgS K g1 f1 js) (sub1 : ∀ i ∈ js, i ∈ vs1)
    (he : ∀ x y z, h x y = some z → EvE K (f1 y (wipeE (f x (wipeE env vs)) vs1)) te z) (hl : zs.length ≤ 100000) (hz : mapO2 inner h xs = some zs) :
    EvN K env (tLc2 wi g tYes wi1 g1 tYes te vs vs1) zs := by
  intro B H σ E Q q
  have hz' : ∃ yss, mapO (fun x => (inner x).bind fun ys => mapO (h x) ys) xs = some yss ∧ yss.flatten = zs := by
    unfold mapO2 at hz
    cases e : mapO (fun x => (inner x).bind fun ys => mapO (h x) ys) xs with
    | none => rw [e] at hz; cases hz
    | some yss =>
      rw [e] at hz
      cases hz
      exact ⟨yss, rfl, rfl⟩
  obtain ⟨yss, hm, hfl⟩ := hz'
  refine hi B H σ E _ fun J B1 H1 k1 ⟨G, Y, W, hG, hY⟩ D hD => ?_
  have nB1 : B1 D = none := k1.bh.none hD
  have E1 := (E.grow k1).wipe vs
  have ne1 : ∀ (i : Nat) (s : Slot) (a : Addr), (wipeE env vs)[i]? = some s → isOwn s = true → (L2.wipe σ vs)[i]? = some (some (.ref a)) → a ≠ D := fun i s a h1 o1 e1 k => by
    cases s with
    | any => cases o1
    | val _ => cases o1
    | obj φ hm =>
      obtain ⟨a', ob, f1, f2, _⟩ := E1.obj h1
      rw [e1] at f1
      cases f1
      rw [k, hD] at f2
      cases f2
    | deep ψ hm => cases o1
  refine ⟨fun i m H2 => m = xs.length - i ∧ i ≤ xs.length ∧ ∃ B2 acc, Grow B1 H1 B2 H2 ∧ B2 D = none ∧ H2 D = some (.lst acc) ∧ Reps K B2 acc (yss.take i).flatten,
    ⟨xs.length, rfl, Nat.zero_le _, B1, [], Grow.free k1.bh hD, nB1, upd_same, .nil⟩, ?_⟩
  rintro i m H2 ⟨rfl, hi', B2, acc, g2, n2, eD, r⟩
  have hGH := hG H2 (g2.b.trans g2.bh)
  by_cases hlt : i < xs.length
  · refine .inr ⟨W.goes i H2 hlt hGH, fun H3 => i + 1 ≤ xs.length ∧ ∃ B2 acc, Grow B1 H1 B2 H3 ∧ B2 D = none ∧ H3 D = some (.lst acc) ∧ Reps K B2 acc (yss.take (i + 1)).flatten, fun H' ⟨p1, p2⟩ => ⟨xs.length - (i + 1), by omega, rfl, p1, p2⟩, fun v H3 y => ?_⟩
    obtain ⟨B3, x, g3, ex, rx⟩ := hY i B2 H2 v H3 hlt g2.b g2.bh (W.yields i H2 v H3 hlt hGH y)
    have eD3 := g3.h D _ eD
    have n3 : B3 D = none := g3.f D n2 (by rw [eD]; exact fun z => nomatch z)
    have g13 := g2.trans g3
    refine hg.run x _ B3 H3 _ v (E1.grow g13) rx _ fun σ' E' l' k' o' => ⟨wipe_same (l'.trans (wipe_length ..)) (fun i hi => (k' i hi).1) sub, ?_⟩
    refine iteT (B := i + 1 ≤ xs.length ∧ ∃ B2 acc, Grow B1 H1 B2 H3 ∧ B2 D = none ∧ H3 D = some (.lst acc) ∧ Reps K B2 acc (yss.take (i + 1)).flatten) ?_
    have ne' : ∀ (j : Nat) (s : Slot) (a : Addr), (f x (wipeE env vs))[j]? = some s → isOwn s = true → σ'[j]? = some (some (.ref a)) → a ≠ D := fun j s a h1 o1 e1 => by
      by_cases hj : j ∈ is
      · rw [(o' j s hj h1).1] at o1
        cases o1
      · rw [(k' j hj).2] at h1
        rw [(k' j hj).1] at e1
        exact ne1 j s a h1 o1 e1
    have ne2 : ∀ (j : Nat) (s : Slot) (a : Addr), (wipeE (f x (wipeE env vs)) vs1)[j]? = some s → isOwn s = true → (L2.wipe σ' vs1)[j]? = some (some (.ref a)) → a ≠ D := fun j s a h1 o1 e1 => by
      rcases wipeE_get h1 with rfl | ⟨h2, h3⟩
      · cases o1
      · rw [wipe_get, if_neg h2] at e1
        exact ne' j s a h3 o1 e1
    obtain ⟨ys, eys, eyi⟩ := mapO_at hm ex
    obtain ⟨bs, ebs, eys⟩ := bind_some eys
    refine hi1 x bs ebs B3 H3 σ' E' _ fun J1 B4 H4 k4 ⟨G1, Y1, W1, hG1, hY1⟩ => ?_
    have eD4 := k4.h D _ eD3
    have n4 : B4 D = none := k4.f D n3 (by rw [eD3]; exact fun z => nomatch z)
    have g14 := g13.trans k4
    have E4 := (E'.grow k4).wipe vs1
    have tkf := flat_take eyi
    have lys : ys.length = bs.length := mapO_len eys
    refine ⟨fun j k H5 => k = bs.length - j ∧ j ≤ bs.length ∧ ∃ B5 acc, Grow B1 H1 B5 H5 ∧ Le B4 B5 ∧ B5 D = none ∧ H5 D = some (.lst acc) ∧ Reps K B5 acc ((yss.take i).flatten ++ ys.take j) ∧ Env K B5 H5 (L2.wipe σ' vs1) (wipeE (f x (wipeE env vs)) vs1),
      ⟨bs.length, rfl, Nat.zero_le _, B4, acc, g14, Le.refl _, n4, eD4, by rw [List.take_zero, List.append_nil]; exact r.mono (g3.b.trans k4.b), E4⟩, ?_⟩
    rintro j k H5 ⟨rfl, hj', B5, acc5, g5, l45, n5, eD5, r5, E5⟩
    have hG1H := hG1 H5 (l45.trans g5.bh)
    by_cases hjl : j < bs.length
    · refine .inr ⟨W1.goes j H5 hjl hG1H, fun H6 => j + 1 ≤ bs.length ∧ ∃ B5 acc, Grow B1 H1 B5 H6 ∧ Le B4 B5 ∧ B5 D = none ∧ H6 D = some (.lst acc) ∧ Reps K B5 acc ((yss.take i).flatten ++ ys.take (j + 1)) ∧ Env K B5 H6 (L2.wipe σ' vs1) (wipeE (f x (wipeE env vs)) vs1), fun H' ⟨p1, p2⟩ => ⟨bs.length - (j + 1), by omega, rfl, p1, p2⟩, fun v6 H6 y6 => ?_⟩
      obtain ⟨B6, x6, g6, ex6, rx6⟩ := hY1 j B5 H5 v6 H6 hjl l45 g5.bh (W1.yields j H5 v6 H6 hjl hG1H y6)
      have eD6 := g6.h D _ eD5
      have n6 : B6 D = none := g6.f D n5 (by rw [eD5]; exact fun z => nomatch z)
      refine hg1.run x6 _ B6 H6 _ v6 (E5.grow g6) rx6 _ fun σ7 E7 l7 k7 o7 => ⟨wipe_same (l7.trans (wipe_length ..)) (fun i hi => (k7 i hi).1) sub1, ?_⟩
      refine iteT (B := j + 1 ≤ bs.length ∧ ∃ B5 acc, Grow B1 H1 B5 H6 ∧ Le B4 B5 ∧ B5 D = none ∧ H6 D = some (.lst acc) ∧ Reps K B5 acc ((yss.take i).flatten ++ ys.take (j + 1)) ∧ Env K B5 H6 (L2.wipe σ' vs1) (wipeE (f x (wipeE env vs)) vs1)) ?_
      obtain ⟨z, ez, ezi⟩ := mapO_at eys ex6
      refine he x x6 z ez B6 H6 σ7 E7 _ fun w B8 H8 g8 rw8 => ?_
      have eD8 := g8.h D _ eD6
      have n8 : B8 D = none := g8.f D n6 (by rw [eD6]; exact fun z => nomatch z)
      have hjy : j < ys.length := by omega
      have la : acc5.length < 100001 := by
        rw [r5.len, List.length_append, List.length_take]
        have h1 := flat_le yss (i + 1)
        rw [tkf, hfl, List.length_append] at h1
        omega
      have tot := (g5.trans g6).trans g8
      refine ⟨acc5, eD8, Nat.lt_of_lt_of_le la (by decide), hjl, B8, acc5 ++ [w], ?_, l45.trans (g6.b.trans g8.b), n8, upd_same, ?_, ((E5.grow g6).grow g8).put n8 ne2⟩
      · refine ⟨tot.b, fun a u z => ?_, fun a u z => ?_, tot.f⟩
        · rw [upd_ne (fun k => by rw [k, n8] at z; cases z)]
          exact tot.bh a u z
        · rw [upd_ne (fun k => by rw [k, hD] at z; cases z)]
          exact tot.h a u z
      · rw [List.take_add_one, ezi, ← List.append_assoc]
        exact (r5.mono (g6.b.trans g8.b)).append (.cons rw8 .nil)
    · have e : j = bs.length := by omega
      subst e
      refine .inl ⟨W1.stops H5 hG1H, hlt, B5, acc5, g5, n5, eD5, ?_⟩
      rw [← lys, List.take_length] at r5
      rw [tkf]
      exact r5
  · have e : i = xs.length := by omega
    subst e
    refine .inl ⟨W.stops H2 hGH, ?_⟩
    rw [← mapO_len hm, List.take_length, hfl] at r
    exact q D _ B2 H2 (k1.none hD) (k1.trans g2) n2 eD ⟨acc, rfl, r⟩
theorem dn_comp2 {scope : Scope} {own : List (Str × Nat)} {vs1 : List Nat} {pos : Pos} {is js : List Nat} {f : α → List Slot → List Slot} {f1 : β → List Slot → List Slot} {m : Option (List α)} {inner : α → Option (List β)} {h : α → β → Option γ} (nd : c.N.Nodup) (hi : DeIt c env iter m) (ok : BlkOk c.N c.sc scope own) (hv : ∀ i ∈ vs1, i ∈ own.map (·.2))
    (hg : DeTg (c.blk scope) tg f is) (sub : ∀ i ∈ is, i ∈ own.map (·.2)) (hi1 : ∀ x, DeIt (c.blk scope) (f x (wipeE env (own.map (·.2)))) iter1 (inner x)) (hg1 : DeTg (c.blk scope) tg1 f1 js) (sub1 : ∀ i ∈ js, i ∈ vs1)
    (he : ∀ x y, De (c.blk scope) (f1 y (wipeE (f x (wipeE env (own.map (·.2)))) vs1)) elt (h x y)) (hs : ∀ env x, foldedSetIterable iter env x = pure x := by intro _ _; rfl) (hs1 : ∀ env x, foldedSetIterable iter1 env x = pure x := by intro _ _; rfl) :
    DeN c env (.ListComp elt [⟨tg, iter, [], 0⟩, ⟨tg1, iter1, [], 0⟩] scope pos) (m.bind fun xs => (mapO2 inner h xs).bind capI) := by
  obtain ⟨wi, i1, i2⟩ := hi
  obtain ⟨g, g1, g2⟩ := hg
  obtain ⟨g', g1', g2'⟩ := hg1
  refine ⟨_, fun X F => pe_lc2 F.calm (by rw [F.N]; exact nd) (i1 X F tg) (by rw [F.N, F.sc]; exact ok) hv (fun s H C cl fp => g1 _ (F.blk s H scope C cl fp)) (fun s H C cl fp => pts_nil) (wi1 := cI (c.blk scope) iter1) (fun s H C cl fp => cI_pi _ (F.blk s H scope C cl fp) _) (fun s H C cl fp => g1' _ (F.blk s H scope C cl fp)) (fun s H C cl fp => pts_nil) (fun s H C cl fp => cE_pe _ (F.blk s H scope C cl fp)) (hs _) hs1, fun z hz => ?_⟩
  obtain ⟨xs, ex, hz⟩ := bind_some hz
  obtain ⟨zs, ez, hz⟩ := bind_some hz
  unfold capI at hz
  split at hz
  · rename_i hl
    cases hz
    exact ev_comp2 (i2 xs ex) g2 sub (fun x ys hy => (hi1 x).can ys hy) g2' sub1 (fun x y z hz => (he x y).can z hz) (of_decide_eq_true hl) ez
  · cases hz
theorem as_comp2 (i : Nat) {y : Str} {py pos spos : Pos} {scope : Scope} {own : List (Str × Nat)} {vs1 : List Nat} {is js : List Nat} {f : α → List Slot → List Slot} {f1 : β → List Slot → List Slot} {m : Option (List α)} {inner : α → Option (List β)} {h : α → β → Option γ}
    (nd : c.N.Nodup) (hN : c.N[i]? = some y) (hy : c.sc.names.lookup y = some .local) (hk : c.sc.kind = .function) (hl : (py.line == pos.line) = true)
    (hn : (scope.names.any fun (n, k) => n == y && (k == .local || k == .cell)) = false) (hi : DeIt c env iter m) (ok : BlkOk c.N c.sc scope own) (hv : ∀ i ∈ vs1, i ∈ own.map (·.2))
    (hg : DeTg (c.blk scope) tg f is) (sub : ∀ i ∈ is, i ∈ own.map (·.2)) (hi1 : ∀ x, DeIt (c.blk scope) (f x (wipeE env (own.map (·.2)))) iter1 (inner x)) (hg1 : DeTg (c.blk scope) tg1 f1 js) (sub1 : ∀ i ∈ js, i ∈ vs1)
    (he : ∀ x y, De (c.blk scope) (f1 y (wipeE (f x (wipeE env (own.map (·.2)))) vs1)) elt (h x y)) (hs : ∀ env x, foldedSetIterable iter env x = pure x := by intro _ _; rfl) (hs1 : ∀ env x, foldedSetIterable iter1 env x = pure x := by intro _ _; rfl) :
    AsN c env (.Assign [.Name y py] (.ListComp elt [⟨tg, iter, [], 0⟩, ⟨tg1, iter1, [], 0⟩] scope pos) spos) i (m.bind fun xs => (mapO2 inner h xs).bind capI) := by
  obtain ⟨wi, i1, i2⟩ := hi
  obtain ⟨g, g1, g2⟩ := hg
  obtain ⟨g', g1', g2'⟩ := hg1
  refine ⟨_, fun X F => ps_setLc2 F.calm (by rw [F.N]; exact nd) (fits_ix F hN) (by rw [F.sc]; exact hy) (sw_true (by rw [F.sc]; exact hk) (by rw [F.sc]; exact hy) hl hn) (i1 X F tg) (by rw [F.N, F.sc]; exact ok) hv (fun s H C cl fp => g1 _ (F.blk s H scope C cl fp)) (fun s H C cl fp => pts_nil) (wi1 := cI (c.blk scope) iter1) (fun s H C cl fp => cI_pi _ (F.blk s H scope C cl fp) _) (fun s H C cl fp => g1' _ (F.blk s H scope C cl fp)) (fun s H C cl fp => pts_nil) (fun s H C cl fp => cE_pe _ (F.blk s H scope C cl fp)) (hs _) hs1, fun z hz => ?_⟩
  obtain ⟨xs, ex, hz⟩ := bind_some hz
  obtain ⟨zs, ez, hz⟩ := bind_some hz
  unfold capI at hz
  split at hz
  · rename_i hl
    cases hz
    exact ev_comp2 (i2 xs ex) g2 sub (fun x ys hy => (hi1 x).can ys hy) g2' sub1 (fun x y z hz => (he x y).can z hz) (of_decide_eq_true hl) ez
  · cases hz
end
end Dn

set_option Elab.async false
set_option linter.all false
set_option maxRecDepth 100000
namespace Dn
open PySem PySem.Spec L2
open Rep (rep)
open ORep (orep)
def spIX (K : PySem.W.Frag) (C CE : Addr) {P R : Type} [Pk P] (fl : R → List (Str × Slot)) (f : P → Option (Option R)) : Sp := fun vs H Q E => ∃ (p : P) (B : Hp) (x dx : Addr) (ws : List V), vs = .ref x :: ws ∧ Le B H ∧ Args K B ws (Pk.sl p) ∧ H x = some (.ins C dx []) ∧ B x = none ∧
  ((∃ r, f p = some (some r) ∧ ∀ o B' H', Le B B' → Le B' H' → (∀ a u, a ≠ x → H a = some u → H' a = some u) → (∀ a, B a = none → ¬ H a = none → B' a = none) → H' x = some o → insφ C x (fl r) K B' x o → Q .non H') ∨
    (f p = some none ∧ ∀ B' H', Grow B H B' H' → E (.ref CE) none H'))
structure ExK (K : PySem.W.Frag) (mg : Str → Option Value) (x : Str) (CE : Addr) : Prop where
  g : mg x = some (.ref CE)
  ex : PySem.W.excIn K CE [.type "ValueError", .type "Exception", .type "BaseException", .type "object"] "ValueError.__new__" = true
  kp : PySem.W.keepIn K (.ref CE) = true
  sb : PySem.W.subIn K (.ref CE) (.type "BaseException") = some true
  ty : PySem.W.typeIn K (.ref CE) = some (.type "type")
  me : PySem.W.exmOne K (.ref CE) (.ref CE) = some true
section
variable {X : Cx} {k : Nat} {f C : Addr} {fd : FuncData} {ps : List Str} {sp : Sp} {E : St → XK} {x : Str} {p pos : Pos} {e : Expr} {es : List Expr} {t : TA}
end
structure MdX (c : Ct) (x : Str) (C CE : Addr) {P R : Type} [Pk P] (fl : R → List (Str × Slot)) (f : P → Option (Option R)) : Prop where
  ok : ∃ (j : Nat) (fa : Addr) (fd : FuncData) (ps : List Str), FnOk c.P c.w c.K c.mg c.base (L2.CX c.P c.w) j fa fd ps (spIX c.K C CE fl f) ∧ j + 1 ≤ c.k ∧ c.mg x = some (.ref C) ∧ Mk c.K C fa ∧ Binds c.K fd ps []
section
variable {S L R0 : Type} {c : Ct} {env : List Slot} {rest suite : List Stmt} {b0 : Stmt} {e : Expr} {es : List Expr} {mk : S → List Slot} {lk : L → List Slot} [Rep R0]
end
end Dn

set_option Elab.async false
set_option linter.all false
set_option maxRecDepth 100000
namespace Dn
open PySem PySem.Spec L2
open Rep (rep)
open ORep (orep)
section
variable {c : Ct} {env : List Slot} {e : Expr} {α β : Type} [Rep α] [Rep β]
class FlatR (α : Type) [Rep α] : Prop where
  any : ∀ {K : PySem.W.Frag} {B B' : Hp} {v : V} {x : α}, rep K B v x → rep K B' v x
instance : FlatR Int := ⟨fun h => h⟩
instance : FlatR Bool := ⟨fun h => h⟩
instance : FlatR Str := ⟨fun h => h⟩
end
def spIXo (K : PySem.W.Frag) (C CE : Addr) {α β R : Type} [Rep α] [Rep β] (fl : R → List (Str × Slot)) (f : α → List β → Option (Option R)) : Sp := fun vs H Q E => ∃ (p : α) (names : List β) (B : Hp) (x dx g : Addr) (vp : V) (ls : List V), vs = [.ref x, vp, .ref g] ∧ rep K B vp p ∧ Le B H ∧ H g = some (.lst ls) ∧ B g = none ∧ Reps K B ls names ∧ H x = some (.ins C dx []) ∧ B x = none ∧
  ((∃ r, f p names = some (some r) ∧ ∀ o B' H' ls', Le B B' → Le B' H' → (∀ a u, a ≠ x → a ≠ g → H a = some u → H' a = some u) → (∀ a, B a = none → ¬ H a = none → B' a = none) → H' x = some o → insφ C x (fl r) K B' x o → H' g = some (.lst ls') → B' g = none → Reps K B' ls' names → Q .non H') ∨
    (f p names = some none ∧ ∀ B' H', Grow B H B' H' → E (.ref CE) none H'))
structure MdXo (c : Ct) (x : Str) (C CE : Addr) {α β R : Type} [Rep α] [Rep β] (fl : R → List (Str × Slot)) (f : α → List β → Option (Option R)) : Prop where
  ok : ∃ (j : Nat) (fa : Addr) (fd : FuncData) (ps : List Str), FnOk c.P c.w c.K c.mg c.base (L2.CX c.P c.w) j fa fd ps (spIXo c.K C CE fl f) ∧ j + 1 ≤ c.k ∧ c.mg x = some (.ref C) ∧ Mk c.K C fa ∧ Binds c.K fd ps []
section
variable {S L R0 α β : Type} [Rep α] [Rep β] {c : Ct} {env : List Slot} {rest suite : List Stmt} {b0 : Stmt} {e : Expr} {mk : S → List Slot} {lk : L → List Slot} [Rep R0]
end
end Dn

set_option Elab.async false
set_option linter.all false
set_option maxRecDepth 100000
namespace Dn
open PySem PySem.Spec L2
open Rep (rep)
open ORep (orep)
def neTup : PyData → Bool
  | .tuple (_ :: _) => true
  | _ => false
def plainD : PyData → Bool
  | .none => false
  | .tuple _ => false
  | _ => true
def okSort (ds : List PyData) : Bool := ds.all (fun d => ds.all fun e => W.alike d e) && (ds.all neTup || ds.all plainD) && decide (ds.length ≤ 100000) && ds.all fun d => decide (d.depth ≤ 60)
theorem zip_fst {α β : Type} : ∀ {xs : List α} {ys : List β}, xs.length = ys.length → (xs.zip ys).map (·.1) = xs
  | [], [], _ => rfl
  | x :: xs, y :: ys, h => by
    show x :: (xs.zip ys).map (·.1) = x :: xs
    rw [zip_fst (Nat.succ.inj h)]
theorem zip_snd {α β : Type} : ∀ {xs : List α} {ys : List β}, xs.length = ys.length → (xs.zip ys).map (·.2) = ys
  | [], [], _ => rfl
  | x :: xs, y :: ys, h => by
    show y :: (xs.zip ys).map (·.2) = y :: ys
    rw [zip_snd (Nat.succ.inj h)]
theorem each_zip {α : Type} (S : List (V × α)) : ∀ {ws : List V} {its : List Value} {xs : List α}, Vals ws its → ws.length = xs.length → (∀ b ∈ ws.zip xs, b ∈ S) → W.EachIs (fun (v : Value) (b : V × α) => RelV b.1 v ∧ b ∈ S) its (ws.zip xs) := by
  intro ws its xs r
  induction r generalizing xs with
  | nil =>
    intro h _
    cases xs with
    | nil => exact .nil
    | cons _ _ => cases h
  | cons r0 _ ih =>
    intro h m
    cases xs with
    | nil => cases h
    | cons x xs => exact .cons ⟨r0, m _ (List.mem_cons_self ..)⟩ (ih (Nat.succ.inj h) fun b hb => m b (List.mem_cons_of_mem _ hb))
theorem each_vals {α : Type} : ∀ {its : List Value} {bs : List (V × α)}, W.EachIs (fun (v : Value) (b : V × α) => RelV b.1 v) its bs → Vals (bs.map (·.1)) its := by
  intro its bs h
  induction h with
  | nil => exact .nil
  | cons r _ ih => exact .cons r ih
theorem dataLe_comp {α β : Type} (f : α → β) (k : β → PyData) (x y : α) : W.dataLe false (fun a => k (f a)) x y = W.dataLe false k (f x) (f y) := by
  rw [W.dataLe_eq, W.dataLe_eq]
theorem Reps.pairs {α : Type} [Rep α] {K : PySem.W.Frag} {B : Hp} : ∀ {ws : List V} {xs : List α}, Reps K B ws xs → ∀ b ∈ ws.zip xs, rep K B b.1 b.2 := by
  intro ws xs h
  induction h with
  | nil => exact fun b m => nomatch m
  | cons r _ ih =>
    intro b m
    cases m with
    | head => exact r
    | tail _ m => exact ih b m
theorem Reps.unzip {α : Type} [Rep α] {K : PySem.W.Frag} {B : Hp} : ∀ {zs : List (V × α)}, (∀ b ∈ zs, rep K B b.1 b.2) → Reps K B (zs.map (·.1)) (zs.map (·.2))
  | [], _ => .nil
  | b :: zs, h => .cons (h b (List.mem_cons_self ..)) (Reps.unzip fun c m => h c (List.mem_cons_of_mem _ m))
section
variable {c : Ct} {env : List Slot} {a : Expr} {α : Type} [Dat α]
end
end Dn

set_option Elab.async false
set_option linter.all false
set_option maxRecDepth 100000
namespace Dn
open PySem PySem.Spec PyProof.Rows L2
open Rep (rep)
open ORep (orep)
theorem preSum_take (ns : List Int) : ∀ n : Nat, n ≤ ns.length → preSum (fun i => ns.getD i 0) n = (ns.take n).sum
  | 0, _ => by simp [preSum]
  | n + 1, h => by
    have ih := preSum_take ns n (by omega)
    have e : preSum (fun i => ns.getD i 0) (n + 1) = preSum (fun i => ns.getD i 0) n + ns.getD n 0 := by rfl
    rw [e, ih, List.take_succ, List.sum_append, List.getD_eq_getElem?_getD, List.getElem?_eq_getElem (by omega : n < ns.length)]
    simp
theorem ints_get {its : List Value} {ns : List Int} (r : Vals (ns.map V.int) its) {i : Nat} {v : Value} (e : its[i]? = some v) : ∃ t, v = .int (ns.getD i 0) t := by
  have hl : i < its.length := (List.getElem?_eq_some_iff.mp e).1
  have hn : i < ns.length := by rw [← r.length, List.length_map] at hl; exact hl
  obtain ⟨u, eu, ru⟩ := r.get (i := i) (x := V.int ns[i]) (by rw [List.getElem?_map, List.getElem?_eq_getElem hn]; rfl)
  rw [e] at eu
  cases eu
  obtain ⟨t, rfl⟩ := ru
  exact ⟨t, by rw [List.getD_eq_getElem?_getD, List.getElem?_eq_getElem hn]; rfl⟩
theorem sumT_raw {prog : Program} {w : World} {A : Around} {E : Value → Shared → Prop} {s : Shared} {l : Addr} {its : List Value} {ns : List Int} {Q : Value → Shared → Prop} (hh : A.handled = none) (hl : IsTup s.heap l its.toArray) (r : Vals (ns.map V.int) its)
    (h : ∀ h' tk t', (∀ b o, s.heap.get? b = some o → h'.get? b = some o) → Q (.int ns.sum t') { s with heap := h', toks := tk }) : wpAny (model prog w) A (call (.builtin "sum") [.ref l]) Q E s := by
  have lS : l < s.heap.objs.size := by
    obtain ⟨o, e, _⟩ := hl
    exact Heap.lt_size e
  have hl' : s.heap.IsTuple l its.toArray := hl
  refine call_sum_walkG (wpAny_pyIter_tuple hl' ?_)
  have hh2 : A.in1.handled = none := hh
  refine ⟨s.heap.objs.size, [s.heap.objs.size, l], [s.heap.objs.size], its.toArray.size, _, _, fun i => ns.getD i 0, rfl, Walks.tuple hh2 _ l (Nat.ne_of_lt lS) its.toArray, ⟨⟨_, Heap.get?_push_size _ rfl, rfl, rfl⟩, ?_⟩, fun b hb => ?_, fun i v e => ?_, fun h' tk t' k => ?_⟩
  · obtain ⟨o, e, z⟩ := hl
    exact ⟨o, Heap.get?_push_of_some _ e, z⟩
  · show b < (s.heap.push _).objs.size
    rw [Heap.size_push]
    rcases List.mem_cons.mp hb with rfl | hb
    · exact Nat.lt_succ_self _
    · rw [List.mem_singleton.mp hb]
      exact Nat.lt_succ_of_lt lS
  · rw [List.getElem?_toArray] at e
    exact ints_get r e
  · have e1 : its.toArray.size = ns.length := by rw [List.size_toArray, ← r.length, List.length_map]
    rw [e1, preSum_take ns _ (Nat.le_refl _), List.take_length]
    refine h h' tk t' fun b o e => k b o (fun m => ?_) (Heap.get?_push_of_some _ e)
    cases List.mem_singleton.mp m
    exact absurd (Heap.lt_size e) (Nat.lt_irrefl _)
section
variable {c : Ct} {env : List Slot} {a : Expr}
theorem reps_intm {K : PySem.W.Frag} {B : Hp} : ∀ {vs : List V} {ns : List Int}, Reps K B vs ns → vs = ns.map V.int := by
  intro vs ns h
  induction h with
  | nil => rfl
  | cons r _ ih =>
    rw [List.map_cons, ← ih]
    cases r
    rfl
end
theorem key_sum {X : Cx} {pins : List (Addr × Obj)} {σ : L2.St} {H : Hp} {s : Shared} {A : Around} {x qual pn : Str} {st : Stmt} {f l : Addr} {fd : FuncData} {ns : List Int} {p1 p2 p3 p4 : Pos}
    (F : Fun X.K x qual st f fd) (Sc : FnScope [pn] [pn] (defScope st)) (hb : Binds X.K fd [pn] []) (hst : defBody st = [.Return (some (.Call (.Name "sum" p1) [.Name pn p2] [] p3)) p4]) (hg : (defScope st).names.lookup ("sum" : Str) = some NameKind.globalImplicit) (hln : (defScope st).names.lookup pn = some NameKind.local) (hm : X.mg "sum" = none) (hd : (pn == ("__debug__" : Str)) = false)
    (hA : A.frames = X.A.frames) (hh : A.handled = none) (hr : A.depth < recursionLimit) (I : L2.Inv X pins σ H s) (hT : SqT X.K H l (ns.map V.int)) :
    wpAny (model X.prog X.w) A (call (.ref f) [.ref l]) (W.KeyPure (.int ns.sum) s) (fun _ _ => False) s := by
  have e := I.env0
  have e0 : Env0 X.prog X.w X.K X.mg X.base A X.stack s H := ⟨by rw [hA]; exact e.frames, e.mod, e.bs, e.bsz, e.funs, e.frf, e.hok, e.bare⟩
  obtain ⟨its, r, pl, hz⟩ := I.tuple hT
  obtain ⟨oc, od, kV, doc, pm, an, cdv, ct, osl, rfl, hl, hc⟩ := F.ex
  refine wpAny_call (Att.call_fn (binds := [(pn, .ref l)]) I.kIn I.nolimit hl hc hr (hb s [.ref l] I.kIn rfl) (by simp [hln]) (fun s₁ IC => ?_) Sc.co Sc.gen Sc.kind)
  have I0 := inv_start (CX := CX0) (E := fun _ _ _ => False) (cd := cdv) (f := f) (qual := qual) Sc hh e0 (vs := [.ref l]) rfl (.cons rfl .nil) IC
  obtain ⟨h₁, tk₁, rfl⟩ := IC.toInCall.same
  have kp := IC.toInCall.keep
  rw [hst]
  refine wpAny_execs_cons (wpAny_Return_some ?_)
  refine Call_ (ld_blt I0 hg hm (by decide +kernel : bootBuiltins ("sum" : Str) = some (.builtin "sum")) ?_)
  refine PyProof.Rows.callWith_builtin1 (PyProof.Rows.args_cons (wpAny_Name (wpAny_loadName_local Sc.kind hln IC.toInCall.ns (v := .ref l) ?_ (PyProof.Rows.args_nil ?_)) hd) rfl) rfl rfl
  · have hk : (PyProof.Rows.envOfC qual (defScope st) s.heap.objs.size f cdv).kindOf pn = some .local := hln
    simp [bindL, hk]
  · have pl2 : IsTup h₁ l its.toArray := by
      obtain ⟨o, e, z⟩ := pl
      exact ⟨o, kp l o e, z⟩
    refine sumT_raw hh pl2 r fun h' tk t' k => ?_
    exact ⟨h', tk, rfl, fun b o e => k b o (kp b o e), Reads.int _ _⟩
def sumKey (t : Tup Int) : PyData := .int t.l.sum
def sortS (xs : List (Tup Int)) : List (Tup Int) := xs.mergeSort (W.dataLe false sumKey)
def rSortKS (K : PySem.W.Frag) (f : Addr) : List V → List V → Hp → VK → Prop := fun vs zs H Q => ∃ (a : Addr) (ws : List V) (xs : List (Tup Int)), vs = [.ref a] ∧ zs = [.ref f] ∧ SqL K H a ws ∧ Reps K H ws xs ∧ xs.length ≤ 100000 ∧
  ∀ (zs : List (V × Tup Int)) (p : Addr), zs.Perm (ws.zip xs) → zs.map (·.2) = sortS xs → H p = none → Q (.ref p) (upd H p (.lst (zs.map (·.1))))
theorem cr_sortKS {X : Cx} {x qual pn : Str} {st : Stmt} {f : Addr} {fd : FuncData} {p1 p2 p3 p4 : Pos}
    (F : Fun X.K x qual st f fd) (Sc : FnScope [pn] [pn] (defScope st)) (hb : Binds X.K fd [pn] []) (hst : defBody st = [.Return (some (.Call (.Name "sum" p1) [.Name pn p2] [] p3)) p4]) (hg : (defScope st).names.lookup ("sum" : Str) = some NameKind.globalImplicit) (hln : (defScope st).names.lookup pn = some NameKind.local) (hm : X.mg "sum" = none) (hd : (pn == ("__debug__" : Str)) = false)
    (hh : X.A.handled = none) (hr : X.A.depth < recursionLimit) (hu : X.A.units + 64 < cLine) : CallRK X (.builtin "sorted") ["key"] (rSortKS X.K f) := by
  intro pins s σ H vs zs us ws0 Q I rv rz h
  obtain ⟨a, ws, xs, rfl, rfl, hq, rep0, h3, q⟩ := h
  cases rv with
  | cons r0 rn =>
    cases rn
    cases r0
    cases rz with
    | cons z0 zn =>
      cases zn
      cases z0
      obtain ⟨its, r, pl, hz⟩ := I.list hq
      have le := rep0.len
      have key := each_zip (ws.zip xs) r le fun b h => h
      have zl : (ws.zip xs).length = xs.length := by rw [List.length_zip, le, Nat.min_self]
      refine W.sorted_key_data (β := V × Tup Int) (bs := ws.zip xs) (R := fun v b => RelV b.1 v ∧ b ∈ ws.zip xs) (b := false) (f := .ref f) (fun b => sumKey b.2) pl.isList key ?_ ?_ ?_ ?_ ?_ ?_ ?_ ?_ ?_
      · intro d m e n
        obtain ⟨b, _, rfl⟩ := List.mem_map.mp m
        obtain ⟨b2, _, rfl⟩ := List.mem_map.mp n
        rfl
      · refine .inr fun d m => ?_
        obtain ⟨b, _, rfl⟩ := List.mem_map.mp m
        exact ⟨(fun h => nomatch h), fun xs h => nomatch h⟩
      · rw [zl]
        exact Nat.le_trans h3 (by decide)
      · intro b m
        show X.A.units + 2 + PyData.depth (.int _) < cLine
        rw [PyData.depth]
        omega
      · first | rfl
      · intro z
        first | rfl
      · intro z
        first | rfl
      · intro v b hR hm' h' tk k
        obtain ⟨hv, mb⟩ := hR
        have rb := Reps.pairs rep0 b mb
        obtain ⟨l, vs2, e1, sT, r2⟩ := rb
        have e2 := reps_intm r2
        subst e2
        rw [e1] at hv
        cases hv
        exact key_sum F Sc hb hst hg hln hm hd rfl hh hr (I.kept (h' := h') (t' := tk) k) sT
      · intro out cc h' tk k fr0 he lo eo
        have vo := each_vals (eo.mono fun _ _ h => h.1)
        have perm := List.mergeSort_perm (ws.zip xs) (W.dataLe false fun b => sumKey b.2)
        have hs : ((ws.zip xs).mergeSort (W.dataLe false fun b => sumKey b.2)).map (·.2) = sortS xs := by
          unfold sortS
          rw [List.map_mergeSort (s := W.dataLe false sumKey) (fun x _ y _ => dataLe_comp (·.2) sumKey x y), zip_snd le]
        have fr : H (s.heap.objs.size + 1) = none := I.hok.fresh (Nat.le_succ _)
        refine ⟨.ref (s.heap.objs.size + 1), _, I.laid (o := .lst (((ws.zip xs).mergeSort (W.dataLe false fun b => sumKey b.2)).map (·.1))) k (Nat.le_succ _) ?_, rfl, q _ _ perm hs fr⟩
        unfold ObjOk
        refine ⟨?_, out, cc, vo, he⟩
        rw [List.length_map, perm.length_eq, zl]
        exact Nat.le_trans h3 (by decide)
theorem dn_sortedKS {c : Ct} {env : List Slot} {a : Expr} {x pn : Str} {st : Stmt} {p px pk pos p1 p2 p3 p4 : Pos} {m : Option (List (Tup Int))} (T : Tf c.K c.mg x st [pn]) (Sc : FnScope [pn] [pn] (defScope st)) (hst : defBody st = [.Return (some (.Call (.Name "sum" p1) [.Name pn p2] [] p3)) p4]) (hgs : (defScope st).names.lookup ("sum" : Str) = some NameKind.globalImplicit) (hln : (defScope st).names.lookup pn = some NameKind.local)
    (hms : c.mg "sum" = none) (hm : c.mg "sorted" = none) (h : DeL c env a m) (hg : Gv c "sorted" := by rfl) (hgx : Gv c x := by rfl) (hpd : (pn == ("__debug__" : Str)) = false := by decide) (hxd : (x == ("__debug__" : Str)) = false := by decide)
    (hs : ∀ env, starEach [a] env = (false, eval a env) :: starEach [] env := by intro _; rfl) 
    (hpe : ∀ (X : Cx) (t tk : TA) (r : List V → List V → Hp → VK → Prop), CallRK X (.builtin "sorted") ["key"] r → Gl X "sorted" → X.mg "sorted" = none → PA X [a] t → PK X [⟨some "key", .Name x px, pk⟩] tk → PE X (.Call (.Name "sorted" p) [a] [⟨some "key", .Name x px, pk⟩] pos) (tCKw r t tk) := by
      intro X t tk r h1 h2 h3 h4 h5; exact pe_callBK h1 h2 h3 (by decide +kernel) h4 h5) :
    DeN c env (.Call (.Name "sorted" p) [a] [⟨some "key", .Name x px, pk⟩] pos) (m.bind fun xs => if xs.length ≤ 100000 then some (sortS xs) else none) := by
  obtain ⟨t, h1, h2⟩ := h
  obtain ⟨fa, fd, hmg, F, hb⟩ := T.ok
  refine ⟨tCKw (rSortKS c.K fa) (tCons t tNil) (tCons (tC (.ref fa)) tNil), fun X Fx => ?_, fun z hz B H σ E Q q => ?_⟩
  · have Fk : Fun X.K x x st fa fd := by rw [Fx.K]; exact F
    have hb' : Binds X.K fd [pn] [] := by rw [Fx.K]; exact hb
    have hd := Fx.room.dp
    refine hpe X _ _ _ (by rw [← Fx.K]; exact cr_sortKS Fk Sc hb' hst hgs hln (by rw [Fx.mg]; exact hms) hpd Fx.room.hd (by omega) (fits_units Fx)) (fits_gl Fx hg) (by rw [Fx.mg]; exact hm) (pa_cons (h1 X Fx) pa_nil (hs _)) (pk_cons (pe_glob (fits_gl Fx hgx) (by rw [Fx.mg]; exact hmg) rfl hxd) pk_nil)
  · obtain ⟨xs, ex, hz⟩ := bind_some hz
    split at hz
    · rename_i ok
      cases hz
      exact h2 xs ex B H σ E _ fun l vs B1 H1 k1 s r => ⟨l, vs, xs, rfl, rfl, s, r.mono k1.bh, ok, fun zs p perm hz hn => q p _ B1 _ (k1.none hn) (k1.trans (Grow.free k1.bh hn)) (k1.bh.none hn) upd_same ⟨_, rfl, by
        rw [← hz]
        exact Reps.unzip fun b m => Reps.pairs r b (perm.mem_iff.mp m)⟩⟩
    · cases hz
end Dn

set_option Elab.async false
set_option linter.all false
set_option maxRecDepth 100000
namespace Dn
open PySem PySem.Spec L2
open Rep (rep)
open ORep (orep)
def rLtD (K : PySem.W.Frag) : R2 := fun x y H Q => ∃ d e, Dp K H x d ∧ Dp K H y e ∧ W.alike d e = true ∧ d ≠ .none ∧ d.depth ≤ 60 ∧ Q (.bl (W.dataLt d e)) H
theorem op_ltD {X : Cx} (hu : X.A.units + 64 < cLine) : OpR X (compareOp .Lt) (rLtD X.K) := by
  intro pins s σ H x y v u Q I rx ry h
  obtain ⟨d, e, h1, h2, h3, h4, h5, q⟩ := h
  obtain ⟨as, r1⟩ := Dp.reads I _ _ _ h1 rx
  obtain ⟨bs, r2⟩ := Dp.reads I _ _ _ h2 ry
  have z := W.rcLt_alike d e X.A s v u as bs r1 r2 h3 h4 (by omega)
  show wpAny _ _ (richCompare .Lt v u) _ _ _
  exact z _ _ _ _ ⟨.bl _, H, I, rfl, q⟩
def neNone : PyData → Bool
  | .none => false
  | _ => true
theorem neNone_of {d : PyData} (h : neNone d = true) : d ≠ .none := fun e => by rw [e] at h; cases h
def ltD {α : Type} [Dat α] (x y : α) : Option Bool := if (W.alike (Dat.toD x) (Dat.toD y) && neNone (Dat.toD x) && decide ((Dat.toD x).depth ≤ 60)) = true then some (W.dataLt (Dat.toD x) (Dat.toD y)) else none
theorem cmp_ltD {c : Ct} {α : Type} [Dat α] : Cmp c .Lt (fun x y : α => ltD x y) := ⟨rLtD c.K, fun X F => by rw [← F.K]; exact op_ltD (fits_units F), fun x y z hz B H v u hB r1 r2 Q q => by
  replace hz : ltD x y = some z := hz
  unfold ltD at hz
  split at hz
  · rename_i h
    cases hz
    simp only [Bool.and_eq_true, decide_eq_true_eq] at h
    exact ⟨_, _, Dat.dp (Rep.mono hB r1), Dat.dp (Rep.mono hB r2), h.1.1, neNone_of h.1.2, h.2, q _ B H (Grow.refl hB) rfl⟩
  · cases hz⟩
section
variable {c : Ct} {env : List Slot} {a b : Expr} {α : Type} [Rep α]
theorem dn_cat {pos : Pos} {m n : Option (List α)} (h : DeN c env a m) (g : DeN c env b n) : DeN c env (.BinOp a .Add b pos) (m.bind fun x => n.bind fun y => if len1 (x.length + y.length) = true then some (x ++ y) else none) := by
  obtain ⟨t, h1, h2⟩ := h
  obtain ⟨u, g1, g2⟩ := g
  refine ⟨_, fun X F => pe_op op_cat (h1 X F) (g1 X F), fun z hz B H σ E Q q => ?_⟩
  obtain ⟨x, ex, hz⟩ := bind_some hz
  obtain ⟨y, ey, hz⟩ := bind_some hz
  split at hz
  · rename_i hl
    cases hz
    exact h2 x ex B H σ E _ fun p o B1 H1 np k1 nb hp r => g2 y ey B1 H1 σ (E.grow k1) _ fun p2 o2 B2 H2 np2 k2 nb2 hp2 r2 => by
      obtain ⟨vs, rfl, r⟩ := r
      obtain ⟨ws, rfl, r2⟩ := r2
      have r := r.mono k2.b
      have kk := k1.trans k2
      exact ⟨p, p2, vs, ws, rfl, rfl, k2.h p _ hp, hp2, by rw [r.len, r2.len]; exact len1_ok hl, fun p3 hn => q p3 _ B2 _ (kk.none hn) (kk.trans (Grow.free kk.bh hn)) (kk.bh.none hn) upd_same ⟨_, rfl, r.append r2⟩⟩
  · cases hz
theorem Reps.reps {K : PySem.W.Frag} {B : Hp} {vs : List V} {xs : List α} (r : Reps K B vs xs) : ∀ n : Nat, Reps K B (List.replicate n vs).flatten (List.replicate n xs).flatten
  | 0 => .nil
  | n + 1 => by
    rw [List.replicate_succ, List.replicate_succ, List.flatten_cons, List.flatten_cons]
    exact r.append (Reps.reps r n)
def repI {α : Type} (xs : List α) (k : Int) : Option (List α) := if (decide (-1000000 ≤ k) && decide (k ≤ 1000000) && len1 (xs.length * k.toNat)) = true then some (List.replicate k.toNat xs).flatten else none
theorem dn_rep {pos : Pos} {m : Option (List α)} {n : Option Int} (h : DeN c env a m) (g : De c env b n) : DeN c env (.BinOp a .Mult b pos) (m.bind fun x => n.bind fun y => repI x y) := by
  obtain ⟨t, h1, h2⟩ := h
  obtain ⟨u, g1, g2⟩ := g
  refine ⟨_, fun X F => pe_op op_rep (h1 X F) (g1 X F), fun z hz B H σ E Q q => ?_⟩
  obtain ⟨x, ex, hz⟩ := bind_some hz
  obtain ⟨y, ey, hz⟩ := bind_some hz
  unfold repI at hz
  split at hz
  · rename_i hl
    cases hz
    simp only [Bool.and_eq_true, decide_eq_true_eq] at hl
    exact h2 x ex B H σ E _ fun p o B1 H1 np k1 nb hp r => g2 y ey B1 H1 σ (E.grow k1) _ fun v B2 H2 k2 r2 => by
      obtain ⟨vs, rfl, r⟩ := r
      cases r2
      have r := r.mono k2.b
      have kk := k1.trans k2
      exact ⟨p, y, vs, rfl, rfl, k2.h p _ hp, by omega, by omega, by rw [r.len]; exact len1_ok hl.2, fun p3 hn => q p3 _ B2 _ (kk.none hn) (kk.trans (Grow.free kk.bh hn)) (kk.bh.none hn) upd_same ⟨_, rfl, r.reps _⟩⟩
  · cases hz
end
section
variable {S L R : Type} [Rep R] {c : Ct} {env : List Slot} {rest : List Stmt} {e : Expr} {mk : S → List Slot} {lk : L → List Slot} {α : Type} [Rep α]
theorem ds_extend (i : Nat) {x : Str} {p1 p2 p3 pos : Pos} {xs : List α} {m : Option (List α)} {k : List α → Fl S L R} (hi : env[i]? = some (.own xs)) (hN : c.N[i]? = some x) (hv : Vis c.sc x) (h : DeN c env e m) (g : ∀ y, DeS c (env.set i (.own (xs ++ y))) rest mk lk (k (xs ++ y)))
    (hd : (x == ("__debug__" : Str)) = false := by decide) (hcd : (x == ("__classdict__" : Str)) = false := by decide) (hs : ∀ env, starEach [e] env = (false, eval e env) :: starEach [] env := by intro _; rfl)
    (hsw : ∀ env, swapsWith (.Call (.Attribute (.Name x p1) "extend" p2) [e] [] p3) none pos.line env = pure false := by intro _; rfl)
    (hpe : ∀ X to t, PE X (.Name x p1) to → PE X e t → PE X (.Call (.Attribute (.Name x p1) "extend" p2) [e] [] p3) (tBM X.K "list" rExtend to (tCons t tNil)) := by
      intro X to t ho ht; exact pe_bm PySem.F.plainAttrs_list PySem.F.slot_list_extend PySem.F.type_list_extend mt_extend ho (pa_cons ht pa_nil)) :
    DeS c env (.Expr (.Call (.Attribute (.Name x p1) "extend" p2) [e] [] p3) pos :: rest) mk lk (Fl.bindO m fun y => if len1 (xs.length + y.length) = true then k (xs ++ y) else .err) := .mk fun B0 H0 B H σ O D P => by
  obtain ⟨y, ey, P⟩ := post_bindO P
  obtain ⟨t, h1, h2⟩ := h
  split at P
  · rename_i hl
    refine cS_cons (t := tDrop (tBM c.K "list" rExtend (tVar i) (tCons t tNil))) (fun X F => by rw [← F.K]; exact ps_expr (hpe X _ t (pe_var (fits_ix F hN) (fits_vis F hv) hd hcd) (h1 X F)) (hsw _)) ?_
    obtain ⟨a, o, e1, e2, e3, vs, rfl, r⟩ := O.en.own hi
    refine ⟨.ref a, e1, .inl ⟨rfl, _, SqL.of e2⟩, ?_⟩
    refine h2 y ey B H σ O.en _ fun p o B1 H1 np k1 nb hp ro => ?_
    obtain ⟨ws, rfl, rw⟩ := ro
    have O1 := O.grow k1
    refine ⟨a, p, vs, ws, rfl, rfl, k1.h a _ e2, hp, ?_, ?_⟩
    · rw [r.len, rw.len]
      exact len1_ok hl
    · exact g y B0 H0 B1 _ σ (O1.change i hi e1 ⟨_, rfl, (r.mono k1.b).append rw⟩) D (P.mono k1.b)
  · exact P.elim
end
end Dn

set_option Elab.async false
set_option linter.all false
set_option maxRecDepth 100000
namespace Dn
section
open PySem PySem.Spec PyProof.Rows L2
end
section
open PySem PySem.Spec L2
open Rep (rep)
variable {c : Ct} {env : List Slot} {a b : Expr} {α : Type} [Rep α]
end
end Dn

set_option Elab.async false
set_option linter.all false
set_option maxRecDepth 100000
namespace Dn
open PySem PySem.Spec L2
open Rep (rep)
open ORep (orep)
section
variable {c : Ct} {env : List Slot} {e a b d elt iter tg : Expr} {es : List Expr} {α β γ : Type} [Rep α] [Rep β] [Rep γ]
def DeItT (c : Ct) (env : List Slot) (tg e : Expr) {α : Type} [Rep α] (m : Option (List α)) : Prop :=
  ∃ wi, (∀ X, Fits c X → PI X tg e wi) ∧ ∀ xs, m = some xs → ∀ (B H : Hp) (σ : St), Env c.K B H σ env → ∀ R : It → Hp → Prop, (∀ J B' H', Grow B H B' H' → DWalk c.K B' J xs → R J H') → wi σ H R
theorem DeIt.t {m : Option (List α)} (h : DeIt c env e m) : DeItT c env tg e m := by
  obtain ⟨wi, h1, h2⟩ := h
  exact ⟨wi, fun X F => h1 X F tg, h2⟩
theorem dn_compT {scope : Scope} {own : List (Str × Nat)} {pos : Pos} {is : List Nat} {f : α → List Slot → List Slot} {m : Option (List α)} {h : α → Option γ} (nd : c.N.Nodup) (hi : DeItT c env tg iter m) (ok : BlkOk c.N c.sc scope own) (hg : DeTg (c.blk scope) tg f is) (sub : ∀ i ∈ is, i ∈ own.map (·.2))
    (he : ∀ x, De (c.blk scope) (f x (wipeE env (own.map (·.2)))) elt (h x)) (hs : ∀ env x, foldedSetIterable iter env x = pure x := by intro _ _; rfl) :
    DeN c env (.ListComp elt [⟨tg, iter, [], 0⟩] scope pos) (m.bind fun xs => (capI xs).bind fun xs => mapO h xs) := by
  obtain ⟨wi, i1, i2⟩ := hi
  obtain ⟨g, g1, g2⟩ := hg
  refine ⟨_, fun X F => pe_lc F.calm (by rw [F.N]; exact nd) (i1 X F) (by rw [F.N, F.sc]; exact ok) (fun s H C cl fp => g1 _ (F.blk s H scope C cl fp)) (fun s H C cl fp => pts_nil) (fun s H C cl fp => cE_pe _ (F.blk s H scope C cl fp)) (hs _), fun z hz => ?_⟩
  obtain ⟨xs, ex, hz⟩ := bind_some hz
  obtain ⟨xs', hc, hz⟩ := bind_some hz
  unfold capI at hc
  split at hc
  · rename_i hl
    cases hc
    rw [← mapO_comp] at hz
    refine ev_comp (i2 xs ex) g2 sub (fun x o eo B H σ E Q q => ?_) (fun x y ey => (he x).can y ?_) (of_decide_eq_true hl) hz
    · cases o with
      | none =>
        cases g : h x with
        | none => rw [g] at eo; cases eo
        | some y => rw [g] at eo; cases eo
      | some y => exact q B H (Grow.refl E.bh)
    · cases g : h x with
      | none => rw [g] at ey; cases ey
      | some y' => rw [g] at ey; cases ey; rfl
  · cases hc
theorem dn_compIfT {t : Expr} {scope : Scope} {own : List (Str × Nat)} {pos : Pos} {is : List Nat} {f : α → List Slot → List Slot} {m : Option (List α)} {p : α → Option Bool} {h : α → Option γ} (nd : c.N.Nodup) (hi : DeItT c env tg iter m) (ok : BlkOk c.N c.sc scope own) (hg : DeTg (c.blk scope) tg f is) (sub : ∀ i ∈ is, i ∈ own.map (·.2))
    (ht : ∀ x, DeT (c.blk scope) (f x (wipeE env (own.map (·.2)))) t (p x)) (he : ∀ x, De (c.blk scope) (f x (wipeE env (own.map (·.2)))) elt (h x)) (hs : ∀ env x, foldedSetIterable iter env x = pure x := by intro _ _; rfl) :
    DeN c env (.ListComp elt [⟨tg, iter, [t], 0⟩] scope pos) (m.bind fun xs => (capI xs).bind fun xs => compO (fun x => (p x).bind fun k => if k = true then (h x).map some else some none) xs) := by
  obtain ⟨wi, i1, i2⟩ := hi
  obtain ⟨g, g1, g2⟩ := hg
  refine ⟨_, fun X F => pe_lc F.calm (by rw [F.N]; exact nd) (i1 X F) (by rw [F.N, F.sc]; exact ok) (fun s H C cl fp => g1 _ (F.blk s H scope C cl fp)) (fun s H C cl fp => pts_one (cT_pt _ (F.blk s H scope C cl fp))) (fun s H C cl fp => cE_pe _ (F.blk s H scope C cl fp)) (hs _), fun z hz => ?_⟩
  obtain ⟨xs, ex, hz⟩ := bind_some hz
  obtain ⟨xs', hc, hz⟩ := bind_some hz
  unfold capI at hc
  split at hc
  · rename_i hl
    cases hc
    refine ev_comp (i2 xs ex) g2 sub (fun x o eo => (ht x).can _ ?_) (fun x y ey => (he x).can y ?_) (of_decide_eq_true hl) hz
    · obtain ⟨k, ek, eo⟩ := bind_some eo
      rw [ek]
      cases k with
      | false => cases eo; rfl
      | true =>
        have eo : (h x).map some = some o := eo
        cases g : h x with
        | none => rw [g] at eo; cases eo
        | some y => rw [g] at eo; cases eo; rfl
    · obtain ⟨k, ek, ey⟩ := bind_some ey
      cases k with
      | false => cases ey
      | true =>
        have ey : (h x).map some = some (some y) := ey
        cases g : h x with
        | none => rw [g] at ey; cases ey
        | some y' => rw [g] at ey; cases ey; rfl
  · cases hc
theorem dwalk_pair {K : PySem.W.Frag} {B : Hp} {J : It} {G : Hp → Prop} {vs ws : List V} {xs : List α} {ys : List β} (W : Walk J (min vs.length ws.length) G (YPair (fun i => vs[i]?) fun i => ws[i]?)) (hG : ∀ H, Le B H → G H) (r1 : Reps K B vs xs) (r2 : Reps K B ws ys) : DWalk K B J (xs.zip ys) := by
  refine ⟨G, _, by rw [List.length_zip, ← r1.len, ← r2.len]; exact W, hG, fun i B1 H v H' hi l1 l2 y => ?_⟩
  obtain ⟨T, x, y', rfl, hT, rfl, g1, g2⟩ := y
  obtain ⟨p, ep, rp⟩ := r1.get g1
  obtain ⟨q, eq, rq⟩ := r2.get g2
  refine ⟨upd B1 T (.tup [x, y']), (p, q), Grow.new l2 hT, ?_, T, x, y', rfl, SqT.of upd_same, Rep.mono (l1.trans (Le.put (l2.none hT))) rp, Rep.mono (l1.trans (Le.put (l2.none hT))) rq⟩
  rw [List.getElem?_zip_eq_some]
  exact ⟨ep, eq⟩
theorem di_zipL {elts : List Expr} {k : Nat} {tpos p pos : Pos} {m : Option (List α)} {n : Option (List β)} (hm : c.mg "zip" = none) (h : De c env a m) (g : De c env b n) (hg : Gv c "zip" := by rfl) (hs : ∀ env, starEach [a, b] env = (false, eval a env) :: starEach [b] env := by intro _; rfl) (hs2 : ∀ env, starEach [b] env = (false, eval b env) :: starEach [] env := by intro _; rfl)
    (hpe : ∀ (X : Cx) (t u : TE), PE X a t → PE X b u → Gl X "zip" → X.mg "zip" = none → PI X (.Tuple elts k tpos) (.Call (.Name "zip" p) [a, b] [] pos) (RZ.iZipA X.K (tCons t (tCons u tNil))) := by
      intro X t u h1 h2 h3 h4; exact RZ.pi_zipA h3 h4 (pa_cons h1 (pa_cons h2 pa_nil))) :
    DeItT c env (.Tuple elts k tpos) (.Call (.Name "zip" p) [a, b] [] pos) (m.bind fun x => n.bind fun y => some (x.zip y)) := by
  obtain ⟨t, h1, h2⟩ := h
  obtain ⟨u, g1, g2⟩ := g
  refine ⟨RZ.iZipA c.K (tCons t (tCons u tNil)), fun X F => by rw [← F.K]; exact hpe X t u (h1 X F) (g1 X F) (fits_gl F hg) (by rw [F.mg]; exact hm), fun xs hx B H σ E R q => ?_⟩
  obtain ⟨x, ex, hx⟩ := bind_some hx
  obtain ⟨y, ey, hx⟩ := bind_some hx
  cases hx
  refine h2 x ex B H σ E _ fun v B1 H1 k1 r => g2 y ey B1 H1 σ (E.grow k1) _ fun v2 B2 H2 k2 r2 => ?_
  obtain ⟨p1, vs, rfl, s1, r⟩ := r
  obtain ⟨p2, ws, rfl, s2, r2⟩ := r2
  have s1' := k2.b.l s1
  refine ⟨p1, p2, vs, ws, rfl, .inl ⟨k2.bh.l s1', k2.bh.l s2, q _ B2 H2 (k1.trans k2) (dwalk_pair (walk_zip rfl) (fun H l => ⟨l.l s1', l.l s2⟩) (r.mono k2.b) r2)⟩⟩
end
section
variable {S T L R : Type} [Rep R]
variable {c : Ct} {env env' : List Slot} {st : Stmt} {rest b b' : List Stmt} {e a d : Expr} {mk : S → List Slot} {lk : L → List Slot} {α β γ : Type} [Rep α] [Rep β] [Rep γ]
end
end Dn

set_option Elab.async false
set_option linter.all false
set_option maxRecDepth 100000
namespace Dn
open PySem PySem.Spec L2
open Rep (rep)
open ORep (orep)
section
variable {c : Ct} {env : List Slot} {a b e o e1 e2 e3 e4 : Expr} {es : List Expr} {α β γ δ R : Type} [Rep α] [Rep β] [Rep γ] [Rep δ] [Rep R]
theorem de_fldP {g : α → β} {f : Str} {pos : Pos} {x : α} (hf : HasF c.K f g) (h : De c env o (some x)) (hb : ∀ env, attributeBase o f env (eval o env) = eval o env := by intro _; rfl) : De c env (.Attribute o f pos) (some (g x)) := de_fld hf h hb
theorem de_pairP {x : α} {y : β} {pos : Pos} {x1} (ha : De c env a (some x)) (hb : De c env b (some y)) (hs : ∀ env, starEach [a, b] env = (false, eval a env) :: starEach [b] env := by intro _; rfl) (hs2 : ∀ env, starEach [b] env = (false, eval b env) :: starEach [] env := by intro _; rfl) : De c env (.Tuple [a, b] x1 pos) (some (x, y)) := de_pair ha hb hs hs2
theorem di_consP {x : α} {xs : List α} (h : De c env e (some x)) (g : DeI c env es (some xs)) (hs : ∀ env, starEach (e :: es) env = (false, eval e env) :: starEach es env := by intro _; rfl) : DeI c env (e :: es) (some (x :: xs)) := di_cons h g hs
theorem dn_lstP {xs : List α} {pos : Pos} (h : DeI c env es (some xs)) (hl : len1 xs.length = true := by rfl) : DeN c env (.List es pos) (some xs) := by
  have := dn_lst (pos := pos) h
  rw [Option.bind_some] at this
  unfold capL at this
  rw [if_pos hl] at this
  exact this
theorem de_lenLP {p pos : Pos} {x : List α} (hm : c.mg "len" = none) (h : DeL c env a (some x)) (hg : Gv c "len" := by rfl) (hs : ∀ env, starEach [a] env = (false, eval a env) :: starEach [] env := by intro _; rfl) : De c env (.Call (.Name "len" p) [a] [] pos) (some (x.length : Int)) := de_lenL hm h hg hs
theorem de_lenUP {p pos : Pos} {x : Tup α} (hm : c.mg "len" = none) (h : De c env a (some x)) (hg : Gv c "len" := by rfl) (hs : ∀ env, starEach [a] env = (false, eval a env) :: starEach [] env := by intro _; rfl) : De c env (.Call (.Name "len" p) [a] [] pos) (some (x.l.length : Int)) := de_lenU hm h hg hs
theorem di_rangeP {p pos : Pos} {j : Int} (hm : c.mg "range" = none) (h : De c env a (some j)) (hg : Gv c "range" := by rfl) (hs : ∀ env, starEach [a] env = (false, eval a env) :: starEach [] env := by intro _; rfl) : DeIt c env (.Call (.Name "range" p) [a] [] pos) (rangeI j) := di_range hm h hg hs
theorem de_call1P {f : α × Unit → Option R} {x : Str} {p pos : Pos} {a1 : α} (D : Df c x f) (h1 : De c env e1 (some a1)) (hg : Gv c x := by rfl) (hdb : (x == ("__debug__" : Str)) = false := by decide) (he : ∀ env, starEach [e1] env = (false, eval e1 env) :: starEach [] env := by intro _; rfl) : De c env (.Call (.Name x p) [e1] [] pos) (f (a1, ())) := de_call1 D h1 hg hdb he
theorem de_call2P {f : α × β × Unit → Option R} {x : Str} {p pos : Pos} {a1 : α} {a2 : β} (D : Df c x f) (h1 : De c env e1 (some a1)) (h2 : De c env e2 (some a2)) (hg : Gv c x := by rfl) (hdb : (x == ("__debug__" : Str)) = false := by decide) (he : ∀ env, starEach [e1, e2] env = (false, eval e1 env) :: starEach [e2] env := by intro _; rfl) (he2 : ∀ env, starEach [e2] env = (false, eval e2 env) :: starEach [] env := by intro _; rfl) :
    De c env (.Call (.Name x p) [e1, e2] [] pos) (f (a1, a2, ())) := de_call2 D h1 h2 hg hdb he he2
theorem de_call3P {f : α × β × γ × Unit → Option R} {x : Str} {p pos : Pos} {a1 : α} {a2 : β} {a3 : γ} (D : Df c x f) (h1 : De c env e1 (some a1)) (h2 : De c env e2 (some a2)) (h3 : De c env e3 (some a3)) (hg : Gv c x := by rfl) (hdb : (x == ("__debug__" : Str)) = false := by decide) (he : ∀ env, starEach [e1, e2, e3] env = (false, eval e1 env) :: starEach [e2, e3] env := by intro _; rfl) (he2 : ∀ env, starEach [e2, e3] env = (false, eval e2 env) :: starEach [e3] env := by intro _; rfl) (he3 : ∀ env, starEach [e3] env = (false, eval e3 env) :: starEach [] env := by intro _; rfl) :
    De c env (.Call (.Name x p) [e1, e2, e3] [] pos) (f (a1, a2, a3, ())) := de_call3 D h1 h2 h3 hg hdb he he2 he3
end
end Dn

set_option Elab.async false
set_option linter.all false
set_option maxRecDepth 100000
namespace Dn
open PySem PySem.Spec L2
open Rep (rep)
open ORep (orep)
section
variable {S T L β : Type} [ORep β]
def PostN (K : PySem.W.Frag) (B0 H0 Bs : Hp) (mk : S → List Slot) (lk : L → List Slot) (D : Ends) (m : Fl S L β) : Prop := match m with
  | .err => False
  | .nx s => ∀ B H σ, Le Bs B → StOk K B0 H0 B H σ (mk s) → D.nx σ H
  | .rt r => ∀ p o B H, H0 p = none → Grow B0 H0 B H → B p = none → H p = some o → orep K B o r → D.rt (.ref p) H
  | .bk s => ∀ B H σ, Le Bs B → StOk K B0 H0 B H σ (lk s) → D.bk σ H
  | .ct s => ∀ B H σ, Le Bs B → StOk K B0 H0 B H σ (lk s) → D.ct σ H
structure DeSN (c : Ct) (env : List Slot) (b : List Stmt) (mk : S → List Slot) (lk : L → List Slot) (m : Fl S L β) : Prop where
  ok : ∀ (B0 H0 B H : Hp) (σ : St), StOk c.K B0 H0 B H σ env → ∀ D : Ends, PostN c.K B0 H0 B mk lk D m → cS c b D σ H
instance {c : Ct} {env : List Slot} {b : List Stmt} {mk : S → List Slot} {lk : L → List Slot} {m : Fl S L β} : CoeFun (DeSN c env b mk lk m) (fun _ => ∀ (B0 H0 B H : Hp) (σ : St), StOk c.K B0 H0 B H σ env → ∀ D : Ends, PostN c.K B0 H0 B mk lk D m → cS c b D σ H) := ⟨DeSN.ok⟩
theorem PostN.mono {K : PySem.W.Frag} {B0 H0 B1 B2 : Hp} {mk : S → List Slot} {lk : L → List Slot} {D : Ends} {m : Fl S L β} (l : Le B1 B2) (P : PostN K B0 H0 B1 mk lk D m) : PostN K B0 H0 B2 mk lk D m := by
  cases m with
  | err => exact P
  | nx s => exact fun B H σ k => P B H σ (l.trans k)
  | rt r => exact P
  | bk s => exact fun B H σ k => P B H σ (l.trans k)
  | ct s => exact fun B H σ k => P B H σ (l.trans k)
variable {c : Ct} {env env' : List Slot} {st : Stmt} {rest b b' : List Stmt} {e a d : Expr} {mk : S → List Slot} {lk : L → List Slot}
theorem postN_bindO {A : Type} {K : PySem.W.Frag} {B0 H0 Bs : Hp} {D : Ends} {m : Option A} {k : A → Fl S L β} (P : PostN K B0 H0 Bs mk lk D (Fl.bindO m k)) : ∃ x, m = some x ∧ PostN K B0 H0 Bs mk lk D (k x) := by
  cases m with
  | none => exact P.elim
  | some x => exact ⟨x, rfl, P⟩
theorem dsn_end {s : S} (w : Wk env (mk s)) : DeSN c env [] mk lk (.nx s : Fl S L β) := .mk fun B0 H0 B H σ O D P =>
  cS_of (fun X F => pss_nil) (show tNext D σ H from P B H σ (Le.refl _) (O.wk w))
theorem dsn_ret {pos : Pos} {m : Option β} (h : DeN c env e m) : DeSN c env (.Return (some e) pos :: rest) mk lk (Fl.bindO m fun x => (.rt x : Fl S L β)) := .mk fun B0 H0 B H σ O D P => by
  obtain ⟨x, ex, P⟩ := postN_bindO P
  obtain ⟨t, h1, h2⟩ := h
  refine cS_cons (fun X F => ps_ret (h1 X F)) ?_
  exact h2 x ex B H σ O.en _ fun p o B1 H1 np k1 nb hp r => P p o B1 H1 (O.g.none np) (O.g.trans k1) nb hp r
theorem postN_bind {J : Type} {jk : J → List Slot} {K : PySem.W.Frag} {B0 H0 Bs : Hp} {D : Ends} {m : Fl J L β} {k : J → Fl S L β} (P : PostN K B0 H0 Bs mk lk D (m.bind k)) {next : St → Hp → Prop} (hn : ∀ j, m = .nx j → PostN K B0 H0 Bs mk lk D (k j) → ∀ B H σ, Le Bs B → StOk K B0 H0 B H σ (jk j) → next σ H) :
    PostN K B0 H0 Bs jk lk { D with nx := next } m := by
  cases m with
  | err => exact P
  | nx j => exact hn j rfl P
  | rt r => exact P
  | bk s => exact P
  | ct s => exact P
theorem dsn_if {J : Type} {jk : J → List Slot} {t : Expr} {pos : Pos} {mt : Option Bool} {m1 m2 : Fl J L β} {k : J → Fl S L β} (ht : DeT c env t mt) (h1 : DeSN c env b jk lk m1) (h2 : DeSN c env b' jk lk m2) (g : ∀ j, DeSN c (jk j) rest mk lk (k j)) :
    DeSN c env (.If t b b' pos :: rest) mk lk (Fl.bindO mt fun x => (if x = true then m1 else m2).bind k) := .mk fun B0 H0 B H σ O D P => by
  obtain ⟨x, ex, P⟩ := postN_bindO P
  obtain ⟨u, t1, t2⟩ := ht
  refine cS_cons (fun X F => ps_if (t1 X F) (cS_ps X F) (cS_ps X F)) ?_
  refine t2 x ex B H σ O.en _ fun B1 H1 k1 => ?_
  have O1 := O.grow k1
  cases x with
  | true =>
    show cS c b { D with nx := cS c rest D } σ H1
    exact h1 B0 H0 B1 H1 σ O1 _ (postN_bind (P.mono k1.b) fun j _ Pj B2 H2 σ2 l2 O2 => g j B0 H0 B2 H2 σ2 O2 D (Pj.mono l2))
  | false =>
    show cS c b' { D with nx := cS c rest D } σ H1
    exact h2 B0 H0 B1 H1 σ O1 _ (postN_bind (P.mono k1.b) fun j _ Pj B2 H2 σ2 l2 O2 => g j B0 H0 B2 H2 σ2 O2 D (Pj.mono l2))
end
def spN (K : PySem.W.Frag) {P R : Type} [Pk P] [ORep R] (f : P → Option R) : Sp := fun vs H Q _ => ∃ (p : P) (r : R) (B : Hp), f p = some r ∧ Le B H ∧ Args K B vs (Pk.sl p) ∧ ∀ q o B' H', H q = none → Grow B H B' H' → B' q = none → H' q = some o → orep K B' o r → Q (.ref q) H'
section
variable {P : Program} {w : World} {K : PySem.W.Frag} {mg : Str → Option Value} {base : Heap}
theorem fn_okN {Pp S L R : Type} [Pk Pp] [ORep R] {x qual : Str} {st : Stmt} {f : Addr} {fd : FuncData} {N ps : List Str} {k : Nat} {mk : S → List Slot} {lk : L → List Slot} {m : Pp → Fl S L R} (F : Fun K x qual st f fd) (Sc : FnScope N ps (defScope st)) (np : ps.length ≤ N.length)
    (hn : ∀ p : Pp, (Pk.sl p).length = ps.length)
    (hb : ∀ p : Pp, DeSN (ctOf P w K mg base k N (defScope st)) (Pk.sl p ++ List.replicate (N.length - (Pk.sl p).length) .any) (defBody st) mk lk (m p)) :
    FnOk P w K mg base CX0 (k + 1) f fd ps (spN K fun p => (m p).fin none) := by
  refine F.ok Sc (fun vs H Q E h => ?_) (fun cdv A outer s H vs Q E hr h => ?_)
  · obtain ⟨p, r, B, _, _, ha, _⟩ := h
    exact ha.len.trans (hn p)
  · obtain ⟨p, r, B, hf, lB, ha, q⟩ := h
    have hl : vs.length ≤ N.length := by
      rw [ha.len, hn p]
      exact np
    refine ⟨_, cS_ps _ (fits_def hr), ?_⟩
    refine hb p B H B H _ (st_start lB ha hl) _ ?_
    replace hf : Fl.fin none (m p) = some r := hf
    cases hm : m p with
    | err => rw [hm] at hf; cases hf
    | nx s' => rw [hm] at hf; cases hf
    | rt r' =>
      rw [hm] at hf
      cases hf
      exact fun p' o B' H' n g nb hp rv => q p' o B' H' n g nb hp rv
    | bk s' => rw [hm] at hf; cases hf
    | ct s' => rw [hm] at hf; cases hf
end
section
variable {c : Ct} {env : List Slot} {e o : Expr} {es : List Expr} {α β γ R : Type} [Rep α] [Rep β] [ORep R]
structure MtN (c : Ct) (α : Type) [Rep α] (x : Str) {P R : Type} [Pk P] [ORep R] (f : α × P → Option R) : Prop where
  ok : ∃ (C : Addr) (j : Nat) (fa : Addr) (fd : FuncData) (ps : List Str), FnOk c.P c.w c.K c.mg c.base CX0 j fa fd ps (spN c.K f) ∧ j ≤ c.k ∧ Cls c.K C ∧ Meth c.K C x fa ∧ Binds c.K fd ps [] ∧
    ∀ (B : Hp) (v : V) (y : α), rep c.K B v y → ∃ a dx fs, v = .ref a ∧ B a = some (.ins C dx fs) ∧ fs.lookup x = none
theorem dn_meth0 {f : α × Unit → Option R} {x : Str} {p pos : Pos} {y : α} (D : MtN c α x f) (h : De c env o (some y))
    (hpe : ∀ (X : Cx) (t : TE) (C fa : Addr) (j : Nat) (fd : FuncData) (ps : List Str), PE X o t → Cls X.K C → Meth X.K C x fa → FnOk X.prog X.w X.K X.mg X.base CX0 j fa fd ps (spN X.K f) → Room j X.A → Binds X.K fd ps [] → PE X (.Call (.Attribute o x p) [] [] pos) (tMeth C x (spN X.K f) [] E0 t tNil) := by
      intro X t C fa j fd ps h1 h2 h3 h4 h5 h6; exact pe_meth0 h1 h2 h3 h4 h5 h6 .nil pass0) : DeN c env (.Call (.Attribute o x p) [] [] pos) (f (y, ())) := by
  obtain ⟨C, j, fa, fd, ps, F, hj, hc, hm, hb, hl⟩ := D.ok
  obtain ⟨t, h1, h2⟩ := h
  refine ⟨tMeth C x (spN c.K f) [] E0 t tNil, fun X Fx => ?_, fun z hz B H σ E Q q => ?_⟩
  · rw [← Fx.K]
    refine hpe X t C fa j fd ps (h1 X Fx) (by rw [Fx.K]; exact hc) (by rw [Fx.K]; exact hm) ?_ (Fx.room.mono hj) (by rw [Fx.K]; exact hb)
    rw [Fx.P, Fx.w, Fx.K, Fx.mg, Fx.base]
    exact F
  · refine h2 y rfl B H σ E _ fun v B1 H1 k1 r => ?_
    obtain ⟨a, dx, fs, rfl, e1, e2⟩ := hl B1 v y r
    exact ⟨a, dx, fs, rfl, k1.bh a _ e1, e2, (y, ()), z, B1, hz, k1.bh, .cons r .nil, fun p' o' B2 H2 np k2 nb hp r2 => q p' o' B2 H2 (k1.none np) (k1.trans k2) nb hp r2⟩
theorem dn_meth1 {f : α × β × Unit → Option R} {x : Str} {p pos : Pos} {e1 : Expr} {y : α} {y2 : β} (D : MtN c α x f) (h : De c env o (some y)) (g : De c env e1 (some y2))
    (hpe : ∀ (X : Cx) (t u : TE) (C fa : Addr) (j : Nat) (fd : FuncData) (ps : List Str), PE X o t → PE X e1 u → Cls X.K C → Meth X.K C x fa → FnOk X.prog X.w X.K X.mg X.base CX0 j fa fd ps (spN X.K f) → Room j X.A → Binds X.K fd ps [] → PE X (.Call (.Attribute o x p) [e1] [] pos) (tMeth C x (spN X.K f) [] E0 t (tCons u tNil)) := by
      intro X t u C fa j fd ps h1 h0 h2 h3 h4 h5 h6; exact pe_meth h1 h2 h3 h4 h5 h6 .nil pass0 (pa_cons h0 pa_nil)) : DeN c env (.Call (.Attribute o x p) [e1] [] pos) (f (y, y2, ())) := by
  obtain ⟨C, j, fa, fd, ps, F, hj, hc, hm, hb, hl⟩ := D.ok
  obtain ⟨t, h1, h2⟩ := h
  obtain ⟨u, g1, g2⟩ := g
  refine ⟨tMeth C x (spN c.K f) [] E0 t (tCons u tNil), fun X Fx => ?_, fun z hz B H σ E Q q => ?_⟩
  · rw [← Fx.K]
    refine hpe X t u C fa j fd ps (h1 X Fx) (g1 X Fx) (by rw [Fx.K]; exact hc) (by rw [Fx.K]; exact hm) ?_ (Fx.room.mono hj) (by rw [Fx.K]; exact hb)
    rw [Fx.P, Fx.w, Fx.K, Fx.mg, Fx.base]
    exact F
  · refine h2 y rfl B H σ E _ fun v B1 H1 k1 r => ?_
    obtain ⟨a, dx, fs, rfl, e1, e2⟩ := hl B1 v y r
    refine ⟨a, dx, fs, rfl, k1.bh a _ e1, e2, ?_⟩
    refine g2 y2 rfl B1 H1 σ (E.grow k1) _ fun v2 B2 H2 k2 r2 => ?_
    exact ⟨(y, y2, ()), z, B2, hz, k2.bh, .cons (Rep.mono k2.b r) (.cons r2 .nil), fun p' o' B3 H3 np k3 nb hp r3 => q p' o' B3 H3 ((k1.trans k2).none np) ((k1.trans k2).trans k3) nb hp r3⟩
end
section
variable {S L R α : Type} [Rep R] [Rep α] {c : Ct} {env : List Slot} {rest : List Stmt} {e e0 : Expr} {mk : S → List Slot} {lk : L → List Slot}
end
end Dn

set_option Elab.async false
set_option linter.all false
set_option maxRecDepth 100000
namespace Dn
open PySem PySem.Spec L2
open Rep (rep)
open ORep (orep)
structure Tm (K : PySem.W.Frag) (C : Addr) (x qual : Str) (st : Stmt) (ps : List Str) : Prop where
  ok : ∃ (fa : Addr) (fd : FuncData), Fun K x qual st fa fd ∧ Meth K C x fa ∧ Binds K fd ps []
def FldNo (K : PySem.W.Frag) (C : Addr) (α : Type) [Rep α] (x : Str) : Prop := ∀ (B : Hp) (v : V) (y : α), rep K B v y → ∃ a dx fs, v = .ref a ∧ B a = some (.ins C dx fs) ∧ fs.lookup x = none
structure Gm (P : Program) (w : World) (K : PySem.W.Frag) (mg : Str → Option Value) (base : Heap) (j : Nat) (α : Type) [Rep α] (x : Str) {Q R : Type} [Pk Q] [Rep R] (f : α × Q → Option R) : Prop where
  ok : ∃ (C fa : Addr) (fd : FuncData) (ps : List Str), FnOk P w K mg base CX0 j fa fd ps (spF K f) ∧ Cls K C ∧ Meth K C x fa ∧ Binds K fd ps [] ∧ FldNo K C α x
structure GmN (P : Program) (w : World) (K : PySem.W.Frag) (mg : Str → Option Value) (base : Heap) (j : Nat) (α : Type) [Rep α] (x : Str) {Q R : Type} [Pk Q] [ORep R] (f : α × Q → Option R) : Prop where
  ok : ∃ (C fa : Addr) (fd : FuncData) (ps : List Str), FnOk P w K mg base CX0 j fa fd ps (spN K f) ∧ Cls K C ∧ Meth K C x fa ∧ Binds K fd ps [] ∧ FldNo K C α x
section
variable {P : Program} {w : World} {K : PySem.W.Frag} {mg : Str → Option Value} {base : Heap} {j : Nat} {α : Type} [Rep α] {x : Str}
theorem Gm.mt {Q R : Type} [Pk Q] [Rep R] {f : α × Q → Option R} (G : Gm P w K mg base j α x f) {c : Ct} (hP : c.P = P := by rfl) (hw : c.w = w := by rfl) (hK : c.K = K := by rfl) (hmg : c.mg = mg := by rfl) (hb : c.base = base := by rfl) (hj : j ≤ c.k := by exact Nat.le_of_ble_eq_true rfl) : Mt c α x f := by
  obtain ⟨P', w', K', mg', base', k, N, sc, fn, df⟩ := c
  cases hP; cases hw; cases hK; cases hmg; cases hb
  obtain ⟨C, fa, fd, ps, h1, h2, h3, h4, h5⟩ := G.ok
  exact ⟨C, j, fa, fd, ps, h1, hj, h2, h3, h4, h5⟩
theorem GmN.mt {Q R : Type} [Pk Q] [ORep R] {f : α × Q → Option R} (G : GmN P w K mg base j α x f) {c : Ct} (hP : c.P = P := by rfl) (hw : c.w = w := by rfl) (hK : c.K = K := by rfl) (hmg : c.mg = mg := by rfl) (hb : c.base = base := by rfl) (hj : j ≤ c.k := by exact Nat.le_of_ble_eq_true rfl) : MtN c α x f := by
  obtain ⟨P', w', K', mg', base', k, N, sc, fn, df⟩ := c
  cases hP; cases hw; cases hK; cases hmg; cases hb
  obtain ⟨C, fa, fd, ps, h1, h2, h3, h4, h5⟩ := G.ok
  exact ⟨C, j, fa, fd, ps, h1, hj, h2, h3, h4, h5⟩
theorem Tm.gmN {C : Addr} {qual : Str} {st : Stmt} {Q S L R : Type} [Pk Q] [ORep R] {N ps : List Str} {k : Nat} {mk : S → List Slot} {lk : L → List Slot} {m : α × Q → Fl S L R} (T : Tm K C x qual st ps) (hc : Cls K C) (no : FldNo K C α x) (Sc : FnScope N ps (defScope st)) (np : ps.length ≤ N.length)
    (hn : ∀ p : α × Q, (Pk.sl p).length = ps.length)
    (hb : ∀ p : α × Q, DeSN (ctOf P w K mg base k N (defScope st)) (Pk.sl p ++ List.replicate (N.length - (Pk.sl p).length) .any) (defBody st) mk lk (m p)) : GmN P w K mg base (k + 1) α x (fun p => (m p).fin none) := by
  obtain ⟨fa, fd, F, hm, hb'⟩ := T.ok
  exact ⟨C, fa, fd, ps, fn_okN F Sc np hn hb, hc, hm, hb', no⟩
end
def initG {S L R : Type} (r : S → R) (m : Fl S L Unit) : Option R := match m with | .nx s => some (r s) | _ => none
structure Gk (P : Program) (w : World) (K : PySem.W.Frag) (mg : Str → Option Value) (base : Heap) (j : Nat) (x : Str) (C : Addr) {Q R : Type} [Pk Q] (fl : R → List (Str × Slot)) (f : Q → Option R) : Prop where
  ok : ∃ (fa : Addr) (fd : FuncData) (ps : List Str), FnOk P w K mg base CX0 j fa fd ps (spI K C fl f) ∧ mg x = some (.ref C) ∧ Mk K C fa ∧ Binds K fd ps []
theorem Gk.md {P : Program} {w : World} {K : PySem.W.Frag} {mg : Str → Option Value} {base : Heap} {j : Nat} {x : Str} {C : Addr} {Q R : Type} [Pk Q] {fl : R → List (Str × Slot)} {f : Q → Option R} (G : Gk P w K mg base j x C fl f) {c : Ct} (hP : c.P = P := by rfl) (hw : c.w = w := by rfl) (hK : c.K = K := by rfl) (hmg : c.mg = mg := by rfl) (hb : c.base = base := by rfl) (hj : j + 1 ≤ c.k := by exact Nat.le_of_ble_eq_true rfl) : Md c x C fl f := by
  obtain ⟨P', w', K', mg', base', k, N, sc, fn, df⟩ := c
  cases hP; cases hw; cases hK; cases hmg; cases hb
  obtain ⟨fa, fd, ps, h1, h2, h3, h4⟩ := G.ok
  exact ⟨j, fa, fd, ps, h1, hj, h2, h3, h4⟩
theorem init_okG {P : Program} {w : World} {K : PySem.W.Frag} {mg : Str → Option Value} {base : Heap} {Pp S L R : Type} [Pk Pp] {x qual : Str} {st : Stmt} {f C : Addr} {fd : FuncData} {N ps : List Str} {k : Nat} {mk : Addr → S → List Slot} {lk : L → List Slot} {m : Pp → Fl S L Unit} {fl : R → List (Str × Slot)} {r : S → R}
    (F : Fun K x qual st f fd) (Sc : FnScope N ps (defScope st)) (np : ps.length ≤ N.length) (hn : ∀ p : Pp, (Pk.sl p).length + 1 = ps.length) (hmk : ∀ y s, (mk y s)[0]? = some (.ins C y (fl (r s))))
    (hb : ∀ (p : Pp) (y : Addr), DeS (ctOf P w K mg base k N (defScope st)) (.ins C y [] :: (Pk.sl p ++ List.replicate (N.length - (Pk.sl p).length - 1) .any)) (defBody st) (mk y) lk (m p)) :
    FnOk P w K mg base CX0 (k + 1) f fd ps (spI K C fl fun p => initG r (m p)) := init_ok F Sc np hn hmk hb
theorem de_make2 {c : Ct} {env : List Slot} {e1 e2 : Expr} {α β R : Type} [Rep α] [Rep β] [Rep R] {C : Addr} {fl : R → List (Str × Slot)} {f : α × β × Unit → Option R} {x : Str} {p pos : Pos} {m1 : Option α} {m2 : Option β} (D : Md c x C fl f) (hr : ∀ (B : Hp) (a dx : Addr) (fs : List (Str × V)) (r : R), B a = some (.ins C dx fs) → Pr2 (FldOk c.K B) fs (fl r) → rep c.K B (.ref a) r)
    (h1 : De c env e1 m1) (h2 : De c env e2 m2) (hg : Gv c x := by rfl) (hdb : (x == ("__debug__" : Str)) = false := by decide) (he : ∀ env, starEach [e1, e2] env = (false, eval e1 env) :: starEach [e2] env := by intro _; rfl) (he2 : ∀ env, starEach [e2] env = (false, eval e2 env) :: starEach [] env := by intro _; rfl) :
    De c env (.Call (.Name x p) [e1, e2] [] pos) (m1.bind fun a1 => m2.bind fun a2 => f (a1, a2, ())) :=
  (de_make D hr (dp_cons h1 (dp_cons h2 dp_nil he2) he) hg hdb he (fun _ => by rw [he2]; rfl)).of bind2
end Dn

set_option maxRecDepth 100000
set_option linter.all false
namespace Dn
open PySem PySem.Spec L2
section
variable {S L R T α β : Type}
theorem bO {x : α} {k : α → Fl S L R} : Fl.bindO (some x) k = k x := rfl
theorem bN {s : T} {k : T → Fl S L R} : Fl.bind (.nx s : Fl T L R) k = k s := rfl
theorem bR {r : R} {k : T → Fl S L R} : Fl.bind (.rt r : Fl T L R) k = .rt r := rfl
theorem loop_inv {f : α → S → Fl S S R} (I : Nat → S → Prop) (N : Nat) : ∀ (xs : List α) (n : Nat) (s : S), (∀ x ∈ xs, ∀ (m : Nat) (s : S), m < N → I m s → ∃ s', f x s = .nx s' ∧ I (m + 1) s') → n + xs.length ≤ N → I n s → ∃ s', (Fl.loop f xs s : Fl S L R) = .nx s' ∧ I (n + xs.length) s'
  | [], n, s, _, _, h => ⟨s, rfl, h⟩
  | x :: xs, n, s, hf, hN, h => by
    rw [List.length_cons] at hN
    obtain ⟨s1, e1, h1⟩ := hf x (List.mem_cons_self ..) n s (by omega) h
    obtain ⟨s2, e2, h2⟩ := loop_inv I N xs (n + 1) s1 (fun y hy => hf y (List.mem_cons_of_mem _ hy)) (by omega) h1
    refine ⟨s2, ?_, by rw [List.length_cons]; have : n + (xs.length + 1) = n + 1 + xs.length := by omega
                       rw [this]; exact h2⟩
    show (match f x s with | .err => .err | .nx s' => Fl.loop f xs s' | .ct s' => Fl.loop f xs s' | .bk s' => .nx s' | .rt r => .rt r : Fl S L R) = _
    rw [e1]
    exact e2
theorem loop_fin {f : α → T → Fl T T R} (I : Nat → T → Prop) {xs : List α} {s : T} {k : T → Fl S L R} {en : Option R} {Q : R → Prop} (hf : ∀ x ∈ xs, ∀ (m : Nat) (s : T), m < xs.length → I m s → ∃ s', f x s = .nx s' ∧ I (m + 1) s') (h : I 0 s) (hk : ∀ s', I xs.length s' → ∃ r, (k s').fin en = some r ∧ Q r) : ∃ r, (Fl.bind (Fl.loop f xs s) k).fin en = some r ∧ Q r := by
  obtain ⟨s', e, h2⟩ := loop_inv (L := L) I xs.length xs 0 s hf (by omega) h
  rw [e, bN]
  exact hk s' (by rw [Nat.zero_add] at h2; exact h2)
theorem loop_unit {f : α → Unit → Fl Unit Unit R} {xs : List α} (h : ∀ x ∈ xs, f x () = .nx ()) : (Fl.loop f xs () : Fl Unit L R) = .nx () := by
  obtain ⟨s, e, _⟩ := loop_inv (L := L) (fun _ _ => True) xs.length xs 0 () (fun x hx _ s _ _ => ⟨(), h x hx, trivial⟩) (by omega) trivial
  exact e
theorem mapO_all {h : α → Option β} (P : β → Prop) : ∀ xs : List α, (∀ x ∈ xs, ∃ y, h x = some y ∧ P y) → ∃ ys, mapO h xs = some ys ∧ ys.length = xs.length ∧ ∀ y ∈ ys, P y
  | [], _ => ⟨[], rfl, rfl, fun _ h => nomatch h⟩
  | x :: xs, hh => by
    obtain ⟨y, e, p⟩ := hh x (List.mem_cons_self ..)
    obtain ⟨ys, e2, l, p2⟩ := mapO_all P xs fun z hz => hh z (List.mem_cons_of_mem _ hz)
    refine ⟨y :: ys, ?_, by rw [List.length_cons, List.length_cons, l], fun z hz => ?_⟩
    · show (h x).bind _ = _
      rw [e, Option.bind_some, e2, Option.bind_some]
    · cases hz with
      | head => exact p
      | tail _ hz => exact p2 z hz
theorem capI_ok {xs : List α} (h : xs.length ≤ 100000) : capI xs = some xs := by
  unfold capI len1
  rw [if_pos (decide_eq_true h)]
theorem len1_of {n : Nat} (h : n ≤ 100000) : len1 n = true := decide_eq_true h
theorem atI_ge {xs : List α} {i : Int} (h0 : 0 ≤ i) (h1 : i < xs.length) : ∃ v, atI xs i = some v ∧ v ∈ xs := by
  obtain ⟨n, rfl⟩ := Int.eq_ofNat_of_zero_le h0
  have hn : n < xs.length := by omega
  exact ⟨xs[n], atI_nat (List.getElem?_eq_getElem hn), List.getElem_mem hn⟩
theorem rangeI_ok {j : Int} (h : j < 1000000) (h0 : 0 ≤ j) : rangeI j = some (upto 0 j.toNat) := by
  have e : b62 j = true := by
    unfold b62
    rw [decide_eq_true (by omega), decide_eq_true (by omega)]
    rfl
  unfold rangeI
  rw [if_pos e]
theorem upto_mem {lo : Int} {n : Nat} {x : Int} (h : x ∈ upto lo n) : lo ≤ x ∧ x < lo + n := by
  unfold upto at h
  obtain ⟨i, hi, rfl⟩ := List.mem_map.mp h
  have := List.mem_range.mp hi
  omega
theorem small_of {i : Int} (h0 : -1000000000000 ≤ i) (h : i ≤ 1000000000000) : small i = true := by
  unfold small
  rw [decide_eq_true (by omega), decide_eq_true (by omega)]
  rfl
theorem mulR {i j : Int} (h0 : -1000000000000 ≤ j) (h : j ≤ 1000000000000) : mulI i j = some (i * j) := by
  unfold mulI
  rw [small_of h0 h, Bool.or_true, if_pos rfl]
theorem mulL {i j : Int} (h0 : -1000000000000 ≤ i) (h : i ≤ 1000000000000) : mulI i j = some (i * j) := by
  unfold mulI
  rw [small_of h0 h, Bool.true_or, if_pos rfl]
theorem modI_ok {i j : Int} (h : 0 < j) : modI i j = some (i % j) := by
  unfold modI
  rw [if_pos (decide_eq_true h)]
theorem divI_ok {i j : Int} (h : 0 < j) (h2 : j < 1073741824) : divI i j = some (i / j) := by
  unfold divI
  rw [decide_eq_true h, decide_eq_true h2]
  rfl
end
theorem ch_lt (a b c : Int) : chO (fun x y => some (decide (x < y))) (fun x y => some (decide (x < y))) (some a) (some b) (some c) = some (decide (a < b) && decide (b < c)) := by
  unfold chO
  by_cases q : a < b <;> simp [q]
theorem orFa {n : Option Bool} : orO (some false) n = n := rfl
theorem andT {n : Option Bool} : andO (some true) n = n := rfl
theorem andFa {n : Option Bool} : andO (some false) n = some false := rfl
theorem ch_ll (a b c : Int) : chO (fun x y => some (decide (x ≤ y))) (fun x y => some (decide (x < y))) (some a) (some b) (some c) = some (decide (a ≤ b) && decide (b < c)) := by
  unfold chO
  by_cases q : a ≤ b <;> simp [q]
section
variable {α : Type} (le : α → α → Bool)
def mg : Nat → List α → List α → List α
  | 0, xs, ys => xs ++ ys
  | n + 1, xs, ys => match xs, ys with
    | [], ys => ys
    | x :: xs, [] => x :: xs
    | x :: xs, y :: ys => if le x y = true then x :: mg n xs (y :: ys) else y :: mg n (x :: xs) ys
def ms : Nat → List α → List α
  | 0, l => l
  | n + 1, l => match l with
    | [] => []
    | [a] => [a]
    | a :: b :: xs => mg le (xs.length + 2) (ms n ((a :: b :: xs).take ((xs.length + 2 + 1) / 2))) (ms n ((a :: b :: xs).drop ((xs.length + 2 + 1) / 2)))
end
end Dn

set_option Elab.async false
set_option linter.all false
set_option maxRecDepth 100000
namespace Dn
open PySem PySem.Spec L2
open Rep (rep)
theorem tf_mk {K : PySem.W.Frag} {h : Heap} {mg : Str → Option Value} {x : Str} {st : Stmt} {f : Addr} {ps : List Str} {od an : Option Addr} {sl : Array (Option Value)} {oc kV dc pm cd ct : Value} (X : K.In h) (G : h.Ns mainGlobals mg) (a : PySem.W.nsIn K mainGlobals x = some (some (.ref f)))
    (l : K.lookup f = some ⟨oc, od, .func (PySem.W.fnOf x x (defArgs st) (defBody st) (defScope st) .none kV dc pm an cd ct), sl⟩) (c : PySem.W.codeIn K cd x = true) (k : PySem.W.keepIn K (.ref f) = true)
    (hb : ∀ (kV doc pm : Value) (an : Option Addr) (cdv ct : Value) (us : List Value), us.length = ps.length → bindArgs (PySem.W.fnOf x x (defArgs st) (defBody st) (defScope st) .none kV doc pm an cdv ct) { pos := us } = pure (ps.zip us)) : Tf K mg x st ps :=
  ⟨f, _, PySem.W.mg_of X G a, fun_mk l c k, (fun_mk l c k).binds hb⟩
theorem tm_mk {K : PySem.W.Frag} {C : Addr} {x qual : Str} {st : Stmt} {f : Addr} {ps : List Str} {od an : Option Addr} {sl : Array (Option Value)} {oc kV dc pm cd ct : Value} (a : PySem.W.findIn K (.ref C) x = some (some (.ref f)))
    (l : K.lookup f = some ⟨oc, od, .func (PySem.W.fnOf x qual (defArgs st) (defBody st) (defScope st) .none kV dc pm an cd ct), sl⟩) (c : PySem.W.codeIn K cd qual = true) (k : PySem.W.keepIn K (.ref f) = true) (n : PySem.W.isFn K (.ref f) = true)
    (hb : ∀ (kV doc pm : Value) (an : Option Addr) (cdv ct : Value) (us : List Value), us.length = ps.length → bindArgs (PySem.W.fnOf x qual (defArgs st) (defBody st) (defScope st) .none kV doc pm an cdv ct) { pos := us } = pure (ps.zip us)) : Tm K C x qual st ps :=
  ⟨f, _, fun_mk l c k, ⟨a, n, k⟩, (fun_mk l c k).binds hb⟩
def spK (K : PySem.W.Frag) : Sp := spF K (fun p : List Int × Unit => if p.1.length ≤ 63 then some true else none)
theorem sp_weakG {K : PySem.W.Frag} {g : List Int → Option Bool} (hl : ∀ ns : List Int, ns.length ≤ 63 → g ns = some true) {vs : List V} {H : Hp} {Q : VK} {E : XK} (h : spK K vs H Q E) : spF K (fun p : List Int × Unit => g p.1) vs H Q E := by
  obtain ⟨p, r, B, e, l, a, q⟩ := h
  refine ⟨p, r, B, ?_, l, a, q⟩
  replace e : (if p.1.length ≤ 63 then some true else none) = some r := e
  split at e
  · rename_i hl2
    cases e
    exact hl p.1 hl2
  · cases e
theorem reps_ints {K : PySem.W.Frag} {B : Hp} : ∀ ns : List Int, Reps K B (ns.map V.int) ns
  | [] => .nil
  | _ :: r => .cons rfl (reps_ints r)
theorem sp_script {K : PySem.W.Frag} {H : Hp} {a : Addr} {ns : List Int} (hl : ns.length ≤ 63) (hS : SqL K H a (ns.map V.int)) : spK K [V.ref a] H (fun v _ => v = V.bl true) (fun _ _ _ => False) := by
  have r : Rep.rep K H (V.ref a) ns := ⟨a, _, rfl, hS, reps_ints ns⟩
  refine ⟨(ns, ()), true, H, if_pos hl, Le.refl H, ?_, fun v B' H' g r => r⟩
  show Args K H [V.ref a] [Slot.val ns]
  exact .cons r .nil
end Dn

set_option Elab.async false
set_option linter.all false
set_option maxRecDepth 100000
namespace Dn
section
open PySem PySem.Spec L2
open PySem.W (KdlSrc kdl_hint_dict kdu_collect)
abbrev Ent := List Int × Addr × V
def EntRel (p : Ent) (q : List Int × Addr × Value) : Prop := p.1 = q.1 ∧ p.2.1 = q.2.1 ∧ RelV p.2.2 q.2.2
def dPhi (a : Addr) (xs : List Ent) : Heap → Prop := fun h => xs.length ≤ sizeLine ∧ (a == sysModules) = false ∧ ∃ us, Paired EntRel xs us ∧ ∃ o es ep, h.get? a = some o ∧ o.ExactDict ∧ o.data = .dict es ep ∧ (∀ P w, es.toList = us.map (entryOfKey (tupleKind (intKind P w)))) ∧ (us.map (·.1)).Nodup
abbrev dHO (a : Addr) (xs : List Ent) : HO := .ext (dPhi a xs)
theorem dPhi.ok {P : Program} {w : World} {H : Hp} {h : Heap} {a : Addr} {xs : List Ent} (x : dPhi a xs h) : ObjOk P w H h a (dHO a xs) :=
  ⟨x, let ⟨_, _, _, _, o, _, _, e, _⟩ := x; ⟨o, e⟩, fun h1 h2 ⟨z, lo, us, r, o, es, ep, e, t⟩ k => ⟨z, lo, us, r, o, es, ep, k o e, t⟩⟩
def KeyAt (K : PySem.W.Frag) (H : Hp) (p : Ent) : Prop := SqT K H p.2.1 (p.1.map V.int)
section
variable {X : Cx} {pins : List (Addr × Obj)} {σ : St} {H : Hp} {s : Shared} {a b : Addr} {xs : List Ent} {k : List Int}
theorem int_items {P : Program} {w : World} : ∀ {ks : List Int} {its : List Value}, Vals (ks.map V.int) its → ItemsAre (intKind P w) ks its
  | [], _, r => by cases r; exact .nil
  | i :: ks, _, r => by
    rw [List.map_cons] at r
    cases r with
    | cons h t =>
      obtain ⟨t1, rfl⟩ := (show ∃ t, _ = Value.int i t from h)
      exact .cons (decide_eq_true rfl) (int_items t)
theorem isKey (I : Inv X pins σ H s) (h : SqT X.K H b (k.map V.int)) : (tupleKind (intKind X.prog X.w)).is s.heap k b := by
  obtain ⟨its, r, ⟨o, e1, e2, n, e3⟩, _⟩ := I.tuple h
  exact ⟨o, its.toArray, n, e1, e2, e3, by simpa using int_items r⟩
theorem dH (I : Inv X pins σ H s) (e : H a = some (dHO a xs)) (hk : ∀ p ∈ xs, KeyAt X.K H p) : xs.length ≤ sizeLine ∧ (a == sysModules) = false ∧ ∃ us, Paired EntRel xs us ∧ s.heap.DictOfH (tupleKind (intKind X.prog X.w)) a us := by
  obtain ⟨z, lo, us, r, o, es, ep, e1, e2, e3, e4, e5⟩ := (show ObjOk X.prog X.w H s.heap a (dHO a xs) from I.hok a _ e).1
  refine ⟨z, lo, us, r, o, es, ep, e1, e2, e3, e4 _ _, ?_, e5⟩
  clear e4 e5 e1 e2 e3 z e
  induction r with
  | nil => exact fun x hx => nomatch hx
  | @cons p q ps qs h t ih =>
    intro x hx
    cases hx with
    | head =>
      have := hk p (List.mem_cons_self ..)
      unfold KeyAt at this
      rw [h.1, h.2.1] at this
      exact isKey I this
    | tail _ hx => exact ih (fun p hp => hk p (List.mem_cons_of_mem _ hp)) x hx
def atE (xs : List Ent) (k : List Int) : Option V := (xs.find? fun x => decide (x.1 = k)).map (·.2.2)
theorem at_rel {us : List (List Int × Addr × Value)} (r : Paired EntRel xs us) (k : List Int) : RelO (atE xs k) ((atKey us k).map (·.2)) := by
  induction r with
  | nil => exact True.intro
  | @cons p q ps qs h t ih =>
    obtain ⟨h1, _, h2⟩ := h
    unfold atE atKey at ih ⊢
    by_cases e : p.1 = k
    · have e' : q.1 = k := h1.symm.trans e
      simp [List.find?_cons, e, e', h2]
      exact h2
    · have e' : ¬ q.1 = k := fun z => e (h1.trans z)
      simp only [List.find?_cons, e, e', decide_false]
      exact ih
def putE (xs : List Ent) (k : List Int) (b : Addr) (v : V) : List Ent := if (atE xs k).isSome = true then xs.map (fun x => if x.1 = k then (x.1, x.2.1, v) else x) else xs ++ [(k, b, v)]
theorem putE_len (xs : List Ent) (k : List Int) (b : Addr) (v : V) : (putE xs k b v).length ≤ xs.length + 1 := by
  unfold putE
  split
  · rw [List.length_map]; omega
  · rw [List.length_append]; exact Nat.le_refl _
theorem put_rel {us : List (List Int × Addr × Value)} (r : Paired EntRel xs us) (k : List Int) (b : Addr) {v : V} {u : Value} (rv : RelV v u) : Paired EntRel (putE xs k b v) (storedH us k b u) := by
  have e : (atE xs k).isSome = (atKey us k).isSome := by rw [(at_rel r k).isSome_eq, Option.isSome_map]
  unfold putE storedH
  rw [e]
  by_cases q : (atKey us k).isSome = true
  · rw [if_pos q, if_pos q]
    clear e q
    induction r with
    | nil => exact .nil
    | @cons p q ps qs h t ih =>
      rw [List.map_cons, List.map_cons]
      refine .cons ?_ ih
      obtain ⟨h1, h2, h3⟩ := h
      unfold putAt
      by_cases e : p.1 = k
      · rw [if_pos e, if_pos (h1.symm.trans e)]; exact ⟨h1, h2, rv⟩
      · rw [if_neg e, if_neg (fun z => e (h1.trans z))]; exact ⟨h1, h2, h3⟩
  · rw [if_neg q, if_neg q]; exact Paired.snoc r ⟨rfl, rfl, rv⟩
end
section
variable {X : Cx} {o i e f value : Expr} {pos pos' apos cpos : Pos} {td ty tv tx : TE}
end
end
end Dn

set_option Elab.async false
set_option linter.all false
set_option maxRecDepth 100000
namespace Dn
section
open PySem PySem.Spec L2
open PySem.W (KdlSrc kdl_hint_dict kdu_collect)
open PyProof.Rows (seqObj)
end
end Dn

set_option Elab.async false
set_option linter.all false
set_option maxRecDepth 100000
namespace Dn
open PySem PySem.Spec L2
open Rep (rep)
open ORep (orep)
section
variable {K : PySem.W.Frag} {B0 H0 B H B' H' : Hp} {σ : St} {env env' : List Slot} {α : Type} [Rep α]
theorem StOk.setG {φ : PySem.W.Frag → Hp → Addr → HO → Prop} {hm : ∀ K B B' a o, Le B B' → φ K B a o → φ K B' a o} {B1 H1 : Hp} (S : StOk K B0 H0 B H σ env) (i : Nat) {p : Addr} {o : HO} (np : H p = none) (g : Grow B H B1 H1) (nb : B1 p = none) (hp : H1 p = some o) (r : φ K B1 p o) :
    StOk K B0 H0 B1 H1 (σ.set i (some (.ref p))) (env.set i (.obj φ hm)) := by
  have S1 := S.grow g
  have old : ∀ (j : Nat) (s : Slot), env[j]? = some s → isOwn s = true → σ[j]? ≠ some (some (.ref p)) := fun j s h o e => by
    cases s with
    | any => cases o
    | val _ => cases o
    | obj φ2 hm2 =>
      obtain ⟨a, ob, e1, e2, _⟩ := S.en.obj h
      rw [e] at e1
      cases e1
      rw [np] at e2
      cases e2
    | deep ψ hm => cases o
  refine ⟨⟨g.bh, by rw [List.length_set, List.length_set]; exact S.en.len, fun j s h => ?_, fun j k s t h1 h2 o1 o2 e => ?_⟩, S1.g, fun j s a h o e => ?_, fun k ψ hm' h => by
    obtain ⟨ik, h⟩ := deep_set (by intro _ _ z; cases z) h
    exact ((S.rd k ψ hm' h).other (v := some (.ref p)) (s := .obj φ hm) ik fun c _ e => by cases e; exact .inl np).grow hm' g⟩
  · by_cases q : i = j
    · subst q
      by_cases hl : i < env.length
      · rw [List.getElem?_set_self hl] at h
        cases h
        rw [List.getElem?_set_self (by rw [S.en.len]; exact hl)]
        exact ⟨p, o, rfl, hp, nb, r⟩
      · rw [List.getElem?_eq_none (by rw [List.length_set]; omega)] at h
        cases h
    · rw [List.getElem?_set_ne q] at h ⊢
      exact S1.en.at_ j s h
  · by_cases q1 : i = j
    · by_cases q2 : i = k
      · rw [← q1, ← q2]
      · subst q1
        rw [List.getElem?_set_ne q2] at h2 e
        by_cases hl : i < env.length
        · rw [List.getElem?_set_self (by rw [S.en.len]; exact hl)] at e
          exact absurd e.symm (old k t h2 o2)
        · rw [List.getElem?_eq_none (by rw [List.length_set]; omega)] at h1
          cases h1
    · rw [List.getElem?_set_ne q1] at h1 e
      by_cases q2 : i = k
      · subst q2
        by_cases hl : i < env.length
        · rw [List.getElem?_set_self (by rw [S.en.len]; exact hl)] at e
          exact absurd e (old j s h1 o1)
        · rw [List.getElem?_eq_none (by rw [List.length_set]; omega)] at h2
          cases h2
      · rw [List.getElem?_set_ne q2] at h2 e
        exact S1.en.ap j k s t h1 h2 o1 o2 e
  · by_cases q : i = j
    · subst q
      by_cases hl : i < env.length
      · rw [List.getElem?_set_self (by rw [S.en.len]; exact hl)] at e
        cases e
        exact S.g.h.none np
      · rw [List.getElem?_eq_none (by rw [List.length_set]; omega)] at h
        cases h
    · rw [List.getElem?_set_ne q] at h e
      exact S.nw j s a h o e
theorem StOk.freezeG {β : Type} [Rep β] {y : β} {φ : PySem.W.Frag → Hp → Addr → HO → Prop} {hm : ∀ K B B' a o, Le B B' → φ K B a o → φ K B' a o} (S : StOk K B0 H0 B H σ env) (i : Nat) (hi : env[i]? = some (.obj φ hm)) (hy : ∀ a o B1, φ K B a o → Le B B1 → B1 a = some o → rep K B1 (.ref a) y) : ∃ B1, StOk K B0 H0 B1 H σ (env.set i (.val y)) ∧ Le B B1 := by
  obtain ⟨a, o, e1, e2, e3, r⟩ := S.en.obj hi
  have nw := S.nw i _ a hi rfl e1
  have hl : i < env.length := (List.getElem?_eq_some_iff.mp hi).1
  have l1 : Le B (upd B a o) := Le.put e3
  have l2 : Le (upd B a o) H := fun b u z => by
    by_cases k : b = a
    · subst k
      rw [upd_same] at z
      rw [e2, z]
    · rw [upd_ne k] at z
      exact S.en.bh b u z
  have other : ∀ (j : Nat) (s : Slot), i ≠ j → env[j]? = some s → isOwn s = true → σ[j]? ≠ some (some (.ref a)) := fun j s n h o e => n (S.en.ap i j _ s hi h rfl o (e1.trans e.symm))
  refine ⟨upd B a o, ⟨⟨l2, by rw [List.length_set]; exact S.en.len, fun j s h => ?_, fun j k s t h1 h2 o1 o2 e => ?_⟩, ⟨S.g.b.trans l1, l2, S.g.h, fun b z n => ?_⟩, fun j s b h o e => ?_, fun k ψ hm' h => by
    obtain ⟨ik, h⟩ := deep_set (by intro _ _ z; cases z) h
    obtain ⟨a2, cs, f1, f2, f3, f4⟩ := S.rd k ψ hm' h
    refine ⟨a2, cs, f1, fun c hc => ⟨(f2 c hc).1, ?_, (f2 c hc).2.2⟩, fun j s c h1 h2 h3 => ?_, hm' _ _ _ _ _ _ _ l1 (fun _ _ => rfl) f4⟩
    · rw [upd_ne (fun z => f3 i _ a hi rfl e1 (by rw [← z]; exact hc))]
      exact (f2 c hc).2.1
    · by_cases q : i = j
      · subst q
        rw [List.getElem?_set_self hl] at h1
        cases h1
        cases h2
      · rw [List.getElem?_set_ne q] at h1
        exact f3 j s c h1 h2 h3⟩, l1⟩
  · by_cases q : i = j
    · subst q
      rw [List.getElem?_set_self hl] at h
      cases h
      exact ⟨_, e1, hy a o _ r l1 upd_same⟩
    · rw [List.getElem?_set_ne q] at h
      have z := S.en.at_ j s h
      cases s with
      | any => trivial
      | @val α' i' y =>
        obtain ⟨u, f1, f2⟩ := z
        exact ⟨u, f1, Rep.mono l1 f2⟩
      | obj φ2 hm2 =>
        obtain ⟨b, ob, f1, f2, f3, f4⟩ := z
        refine ⟨b, ob, f1, f2, ?_, hm2 _ _ _ _ _ l1 f4⟩
        rw [upd_ne (fun k => other j _ q h rfl (by rw [f1, k]))]
        exact f3
      | deep ψ hm => trivial
  · by_cases q1 : i = j
    · subst q1
      rw [List.getElem?_set_self hl] at h1
      cases h1
      cases o1
    · by_cases q2 : i = k
      · subst q2
        rw [List.getElem?_set_self hl] at h2
        cases h2
        cases o2
      · rw [List.getElem?_set_ne q1] at h1
        rw [List.getElem?_set_ne q2] at h2
        exact S.en.ap j k s t h1 h2 o1 o2 e
  · rw [upd_ne (fun k => n (by rw [k]; exact nw))]
    exact S.g.f b z n
  · by_cases q : i = j
    · subst q
      rw [List.getElem?_set_self hl] at h
      cases h
      cases o
    · rw [List.getElem?_set_ne q] at h
      exact S.nw j s b h o e
end
structure Dct (α : Type) where
  l : List (Tup Int × α)
section
variable {α : Type}
def Dct.get (d : Dct α) (k : Tup Int) : Option α := (d.l.find? fun p => decide (p.1 = k)).map (·.2)
def Dct.put (d : Dct α) (k : Tup Int) (v : α) : Dct α := if (d.get k).isSome = true then ⟨d.l.map fun p => if p.1 = k then (p.1, v) else p⟩ else ⟨d.l ++ [(k, v)]⟩
theorem tup_eq {x y : Tup Int} : (x.l = y.l) ↔ x = y := by
  cases x; cases y
  constructor
  · intro h; cases h; rfl
  · intro h; cases h; rfl
variable [Rep α] {K : PySem.W.Frag} {B B' : Hp}
def DRel (K : PySem.W.Frag) (B : Hp) (xs : List Ent) (l : List (Tup Int × α)) : Prop := Paired (fun (x : Ent) (p : Tup Int × α) => x.1 = p.1.l ∧ SqT K B x.2.1 (x.1.map V.int) ∧ rep K B x.2.2 p.2) xs l
theorem DRel.mono (e : Le B B') {xs : List Ent} {l : List (Tup Int × α)} (r : DRel K B xs l) : DRel K B' xs l := Paired.mapP r fun _ _ h => ⟨h.1, e.t h.2.1, Rep.mono e h.2.2⟩
theorem DRel.keys {xs : List Ent} {l : List (Tup Int × α)} (r : DRel K B xs l) : ∀ p ∈ xs, KeyAt K B p := by
  unfold DRel at r
  induction r with
  | nil => exact fun _ h => nomatch h
  | cons h _ ih =>
    intro p m
    cases m with
    | head => exact h.2.1
    | tail _ m => exact ih p m
theorem DRel.at_ {xs : List Ent} {l : List (Tup Int × α)} (r : DRel K B xs l) (k : Tup Int) : (∀ y, (⟨l⟩ : Dct α).get k = some y → ∃ v, atE xs k.l = some v ∧ rep K B v y) ∧ ((⟨l⟩ : Dct α).get k = none → atE xs k.l = none) := by
  unfold DRel at r
  unfold Dct.get atE
  induction r with
  | nil => exact ⟨fun y h => (nomatch (show (none : Option α) = some y from h)), fun _ => rfl⟩
  | @cons x p xs ps h t ih =>
    by_cases e : p.1 = k
    · have e' : x.1 = k.l := by rw [h.1, e]
      have a1 : List.find? (fun q : Tup Int × α => decide (q.1 = k)) (p :: ps) = some p := by simp [List.find?_cons, e]
      have a2 : List.find? (fun q : Ent => decide (q.1 = k.l)) (x :: xs) = some x := by simp [List.find?_cons, e']
      rw [a1, a2]
      exact ⟨fun y hy => ⟨_, rfl, by cases hy; exact h.2.2⟩, fun h => nomatch h⟩
    · have e' : ¬ x.1 = k.l := fun z => e (tup_eq.mp (h.1.symm.trans z))
      have a1 : List.find? (fun q : Tup Int × α => decide (q.1 = k)) (p :: ps) = List.find? (fun q : Tup Int × α => decide (q.1 = k)) ps := by simp [List.find?_cons, e]
      have a2 : List.find? (fun q : Ent => decide (q.1 = k.l)) (x :: xs) = List.find? (fun q : Ent => decide (q.1 = k.l)) xs := by simp [List.find?_cons, e']
      rw [a1, a2]
      exact ih
theorem DRel.put {xs : List Ent} {l : List (Tup Int × α)} (r : DRel K B xs l) {k : Tup Int} {b : Addr} {v : V} {y : α} (hk : SqT K B b (k.l.map V.int)) (hv : rep K B v y) : DRel K B (putE xs k.l b v) ((⟨l⟩ : Dct α).put k y).l := by
  have e : (atE xs k.l).isSome = ((⟨l⟩ : Dct α).get k).isSome := by
    obtain ⟨h1, h2⟩ := r.at_ k
    cases q : (⟨l⟩ : Dct α).get k with
    | none => rw [h2 q]; rfl
    | some z => obtain ⟨w, e, _⟩ := h1 z q; rw [e]; rfl
  unfold putE Dct.put
  rw [e]
  by_cases q : ((⟨l⟩ : Dct α).get k).isSome = true
  · rw [if_pos q, if_pos q]
    clear e q
    unfold DRel at r ⊢
    induction r with
    | nil => exact .nil
    | @cons x p xs ps h t ih =>
      rw [List.map_cons]
      refine .cons ?_ ih
      by_cases e : p.1 = k
      · have e1 : (if x.1 = k.l then (x.1, x.2.1, v) else x) = (x.1, x.2.1, v) := if_pos (by rw [h.1, e])
        have e2 : (if p.1 = k then (p.1, y) else p) = (p.1, y) := if_pos e
        show (if x.1 = k.l then (x.1, x.2.1, v) else x).1 = (if p.1 = k then (p.1, y) else p).1.l ∧ SqT K B (if x.1 = k.l then (x.1, x.2.1, v) else x).2.1 ((if x.1 = k.l then (x.1, x.2.1, v) else x).1.map V.int) ∧ rep K B (if x.1 = k.l then (x.1, x.2.1, v) else x).2.2 (if p.1 = k then (p.1, y) else p).2
        rw [e1, e2]
        exact ⟨h.1, h.2.1, hv⟩
      · have e1 : (if x.1 = k.l then (x.1, x.2.1, v) else x) = x := if_neg (fun z => e (tup_eq.mp (h.1.symm.trans z)))
        have e2 : (if p.1 = k then (p.1, y) else p) = p := if_neg e
        show (if x.1 = k.l then (x.1, x.2.1, v) else x).1 = (if p.1 = k then (p.1, y) else p).1.l ∧ SqT K B (if x.1 = k.l then (x.1, x.2.1, v) else x).2.1 ((if x.1 = k.l then (x.1, x.2.1, v) else x).1.map V.int) ∧ rep K B (if x.1 = k.l then (x.1, x.2.1, v) else x).2.2 (if p.1 = k then (p.1, y) else p).2
        rw [e1, e2]
        exact h
  · rw [if_neg q, if_neg q]
    exact Paired.snoc r ⟨rfl, hk, hv⟩
end
section
variable {α : Type} [Rep α]
instance : Rep (Dct α) := ⟨fun K B v d => ∃ a xs, v = .ref a ∧ B a = some (dHO a xs) ∧ DRel K B xs d.l, fun e ⟨a, xs, h, s, r⟩ => ⟨a, xs, h, e a _ s, r.mono e⟩⟩
end
section
variable {S L R : Type} [Rep R] {c : Ct} {env : List Slot} {rest : List Stmt} {e i o f a : Expr} {mk : S → List Slot} {lk : L → List Slot} {α : Type} [Rep α]
end
end Dn

set_option Elab.async false
set_option linter.all false
set_option maxRecDepth 100000
namespace Dn
section
open PySem PySem.Spec PyProof.Rows L2
variable {prog : Program} {w : World} {A : Around} {E : Value → Shared → Prop} {s : Shared}
end
open PySem PySem.Spec L2
open Rep (rep)
open ORep (orep)
section
variable {c : Ct} {env : List Slot} {a b e : Expr} {α : Type} [Rep α]
theorem dn_revL {k : Nat} {p1 p2 p3 pos : Pos} {m : Option (List α)} (h : DeL c env e m) : DeN c env (.Subscript e (.Slice none none (some (.UnaryOp .USub (.Constant (.int 1) k p1) p2)) p3) pos) (m.bind fun xs => some xs.reverse) := by
  obtain ⟨t, h1, h2⟩ := h
  refine ⟨tRevL c.K t, fun X F => by rw [← F.K]; exact pe_revL (h1 X F), fun z hz B H σ E Q q => ?_⟩
  obtain ⟨xs, ex, hz⟩ := bind_some hz
  cases hz
  exact h2 xs ex B H σ E _ fun l vs B1 H1 k1 s r => ⟨l, vs, rfl, s, fun p hn => q p _ B1 _ (k1.none hn) (k1.trans (Grow.free k1.bh hn)) (k1.bh.none hn) upd_same ⟨_, rfl, r.reverse⟩⟩
end
section
variable {c : Ct}
end
end Dn

set_option Elab.async false
set_option linter.all false
set_option maxRecDepth 100000
namespace Dn
section
open PySem PySem.Spec PyProof.Rows L2
variable {prog : Program} {w : World} {A : Around} {E : Value → Shared → Prop} {s : Shared}
end
open PySem PySem.Spec L2
open Rep (rep)
section
variable {c : Ct} {env : List Slot} {a : Expr} {α : Type} [Rep α]
end
end Dn

set_option Elab.async false
set_option linter.all false
set_option maxRecDepth 100000
namespace Dn
open PySem PySem.Spec L2
open Rep (rep)
section
variable {c : Ct} {env : List Slot} {a b e o i f : Expr} {α β γ : Type} [Rep α] [Rep β] [Rep γ] {pos p : Pos}
theorem de_mulP {x y : Int} (ha : De c env a (some x)) (hb : De c env b (some y)) : De c env (.BinOp a .Mult b pos) (mulI x y) := de_mul ha hb
theorem de_modP {x y : Int} (ha : De c env a (some x)) (hb : De c env b (some y)) : De c env (.BinOp a .Mod b pos) (modI x y) := de_mod ha hb
theorem de_divP {x y : Int} (ha : De c env a (some x)) (hb : De c env b (some y)) : De c env (.BinOp a .FloorDiv b pos) (divI x y) := de_div ha hb
theorem de_powP {x y : Int} (ha : De c env a (some x)) (hb : De c env b (some y)) : De c env (.BinOp a .Pow b pos) (powI x y) := de_pow ha hb
theorem de_addP {x y : Int} (ha : De c env a (some x)) (hb : De c env b (some y)) : De c env (.BinOp a .Add b pos) (some (x + y)) := de_add ha hb
theorem de_subP {x y : Int} (ha : De c env a (some x)) (hb : De c env b (some y)) : De c env (.BinOp a .Sub b pos) (some (x - y)) := de_sub ha hb
theorem de_catUP {x y : Tup α} (ha : De c env a (some x)) (hb : De c env b (some y)) : De c env (.BinOp a .Add b pos) (catU x y) := de_catU ha hb
theorem dn_repP {x : List α} {y : Int} (ha : DeN c env a (some x)) (hb : De c env b (some y)) : DeN c env (.BinOp a .Mult b pos) (repI x y) := dn_rep ha hb
theorem de_ixLP {x : List α} {y : Int} (h : DeL c env a (some x)) (g : De c env b (some y)) (hs : PlainIx b := by exact fun _ _ => rfl) : De c env (.Subscript a b pos) (atI x y) := de_ixL h g hs
theorem de_ixTP {x : Tup α} {y : Int} (h : De c env a (some x)) (g : De c env b (some y)) (hs : PlainIx b := by exact fun _ _ => rfl) : De c env (.Subscript a b pos) (atI x.l y) := de_ixT h g hs
theorem de_ixSP {x : Str} {y : Int} (h : De c env a (some x)) (g : De c env b (some y)) (hs : PlainIx b := by exact fun _ _ => rfl) : De c env (.Subscript a b pos) (atS x y) := de_ixS h g hs
theorem di_range2P {x y : Int} (hm : c.mg "range" = none) (h : De c env a (some x)) (g : De c env b (some y)) (hg : Gv c "range" := by rfl) (hs : ∀ env, starEach [a, b] env = [(false, eval a env), (false, eval b env)] := by intro _; rfl) (hs2 : ∀ env, starEach [b] env = [(false, eval b env)] := by intro _; rfl) : DeIt c env (.Call (.Name "range" p) [a, b] [] pos) (range2I x y) := di_range2 hm h g hg hs hs2
theorem de_cP {op : CmpOp} {f : α → β → Option Bool} {x : α} {y : β} (C : Cmp c op f) (ha : De c env a (some x)) (hb : De c env b (some y)) (hm : behindInMarks op b = false := by first | rfl | exact nomark _) : De c env (.Compare a [op] [b] pos) (f x y) := de_c C ha hb hm
theorem dt_c1P {op : CmpOp} {f : α → β → Option Bool} {x : α} {y : β} (C : Cmp c op f) (ha : De c env a (some x)) (hb : De c env b (some y)) (hm : behindInMarks op b = false := by first | rfl | exact nomark _) : DeT c env (.Compare a [op] [b] pos) (f x y) := dt_c1 C ha hb hm
theorem de_intIP {x : Int} (hm : c.mg "int" = none) (h : De c env a (some x)) (hg : Gv c "int" := by rfl) (hs : ∀ env, starEach [a] env = (false, eval a env) :: starEach [] env := by intro _; rfl) : De c env (.Call (.Name "int" p) [a] [] pos) (some x) := de_intI hm h hg hs
theorem do_someP {x : Int} (h : De c env e (some x)) : DeO c env (some e) (some (some x)) := do_some h
theorem dn_slLP {p2 : Pos} {lo hi : Option Expr} {x : List α} {l u : Option Int} (h : DeL c env a (some x)) (hl : DeO c env lo (some l)) (hh : DeO c env hi (some u)) : DeN c env (.Subscript a (.Slice lo hi none p2) pos) (some (cutG x l u)) := dn_slL h hl hh
theorem de_tupHP {es : List Expr} {x1} {xs : List α} (h : DeI c env es (some xs)) (hl : len1 xs.length = true := by rfl) : De c env (.Tuple es x1 pos) (some (⟨xs⟩ : Tup α)) := by
  have := de_tupH (pos := pos) (x1 := x1) h
  rw [Option.bind_some] at this
  unfold capL at this
  rw [if_pos hl] at this
  exact this
end
end Dn

set_option Elab.async false
set_option linter.all false
set_option maxRecDepth 100000
namespace Dn
open PySem PySem.Spec L2
theorem ltD_tup (x y : Tup Int) (hx : 1 ≤ x.l.length) : ltD x y = some (decide (x.l < y.l)) := by
  unfold ltD
  have a : W.alike (Dat.toD x) (Dat.toD y) = true := by
    show W.alike (.tuple (x.l.map PyData.int)) (.tuple (y.l.map PyData.int)) = true
    rw [W.alike]
    exact W.alike_ints x.l y.l
  have n : neNone (Dat.toD x) = true := rfl
  have d : (Dat.toD x).depth ≤ 60 := by
    show (PyData.tuple (x.l.map PyData.int)).depth ≤ 60
    rw [PyData.depth, W.depth_ints]
    decide
  rw [a, n, decide_eq_true d, Bool.and_self, Bool.and_self, if_pos rfl]
  show some (W.dataLt (.tuple (x.l.map PyData.int)) (.tuple (y.l.map PyData.int))) = _
  rw [W.dataLt_tuple]
  exact congrArg some (W.dataLt_ints x.l y.l)
theorem okSort_tups (ks : List (Tup Int)) (h : ∀ k ∈ ks, 1 ≤ k.l.length) (hl : ks.length ≤ 100000) : okSort (ks.map Dat.toD) = true := by
  unfold okSort
  simp only [Bool.and_eq_true, List.all_eq_true, Bool.or_eq_true, decide_eq_true_eq, List.length_map]
  refine ⟨⟨⟨?_, Or.inl ?_⟩, hl⟩, ?_⟩
  · intro d hd e he
    obtain ⟨x, _, rfl⟩ := List.mem_map.mp hd
    obtain ⟨y, _, rfl⟩ := List.mem_map.mp he
    show W.alike (.tuple (x.l.map PyData.int)) (.tuple (y.l.map PyData.int)) = true
    rw [W.alike]
    exact W.alike_ints x.l y.l
  · intro d hd
    obtain ⟨x, hx, rfl⟩ := List.mem_map.mp hd
    have := h x hx
    obtain ⟨l⟩ := x
    cases l with
    | nil => exact absurd this (by decide)
    | cons _ _ => rfl
  · intro d hd
    obtain ⟨x, _, rfl⟩ := List.mem_map.mp hd
    show (PyData.tuple (x.l.map PyData.int)).depth ≤ 60
    rw [PyData.depth, W.depth_ints]
    decide
theorem okSort_keys {α : Type} (d : Dct α) (h : ∀ q ∈ d.l, 1 ≤ q.1.l.length) (hl : d.l.length ≤ 100000) : okSort (d.l.map fun p => Dat.toD p.1) = true := by
  have := okSort_tups (d.l.map (·.1)) (fun k hk => by
    obtain ⟨q, hq, rfl⟩ := List.mem_map.mp hk
    exact h q hq) (by rw [List.length_map]; exact hl)
  rw [List.map_map] at this
  exact this
section
variable {α : Type}
theorem Dct.get_mem {d : Dct α} {k : Tup Int} (h : k ∈ d.l.map (·.1)) : ∃ v, d.get k = some v := by
  obtain ⟨q, hq, rfl⟩ := List.mem_map.mp h
  unfold Dct.get
  have : (d.l.find? fun p => decide (p.1 = q.1)).isSome = true := by
    rw [List.find?_isSome]
    exact ⟨q, hq, decide_eq_true rfl⟩
  obtain ⟨p, hp⟩ := Option.isSome_iff_exists.mp this
  exact ⟨p.2, by rw [hp]; rfl⟩
theorem Dct.put_len (d : Dct α) (k : Tup Int) (v : α) : (d.put k v).l.length ≤ d.l.length + 1 := by
  unfold Dct.put
  split
  · rw [List.length_map]; omega
  · rw [List.length_append]; exact Nat.le_refl _
end
theorem cutG_len {α : Type} {xs : List α} {a b : Int} (h0 : 0 ≤ a) (h1 : a ≤ b) (h2 : b ≤ xs.length) : ((cutG xs (some a) (some b)).length : Int) = b - a := by
  obtain ⟨m, rfl⟩ := Int.eq_ofNat_of_zero_le h0
  obtain ⟨n, rfl⟩ := Int.eq_ofNat_of_zero_le (Int.le_trans h0 h1)
  unfold cutG
  rw [List.length_take, List.length_drop, HT.sIx_nat, HT.sIx_nat]
  omega
theorem cutG_sub {α : Type} (xs : List α) (lo hi : Option Int) : (cutG xs lo hi).length ≤ xs.length ∧ ∀ y ∈ cutG xs lo hi, y ∈ xs := by
  unfold cutG
  refine ⟨?_, fun y m => ?_⟩
  · simp only [List.length_take, List.length_drop]
    omega
  · exact List.mem_of_mem_drop (List.mem_of_mem_take m)
end Dn

set_option Elab.async false
set_option linter.all false
set_option maxRecDepth 100000
namespace Dn
section
open PySem PySem.Spec L2
open PySem.W (KdlSrc kdl_hint_dict kdu_collect)
open PyProof.Rows (seqObj)
end
open PySem PySem.Spec L2
open Rep (rep)
open ORep (orep)
section
variable {c : Ct} {env : List Slot} {a : Expr} {α : Type} [Rep α]
end
end Dn

set_option Elab.async false
set_option linter.all false
set_option maxRecDepth 100000
namespace L2
section
open PySem PySem.Spec PyProof.Rows
open Dn (Ent dHO KeyAt putE putE_len put_rel dH isKey dPhi)
section
variable {X : Cx}
theorem sw_trueE {kx vx : Expr} {gs : List Comprehension} {scope : Scope} {pos py : Pos} {y : Str} {l : Nat} {env : PySem.Env} (hk : env.scope.kind = .function) (hy : env.scope.names.lookup y = some .local) (hl : (py.line == pos.line) = true)
    (ha : (scope.names.any fun (n, k) => n == y && (k == .local || k == .cell)) = false) : swapsWith (.DictComp kx vx gs scope pos) (some (.Name y py)) l env = pure true := by
  have ky : env.kindOf y = some .local := hy
  have hb : env.blockKind = .function := by unfold Env.blockKind; rw [hk]; rfl
  unfold swapsWith
  simp only [hb, ky, ha, Expr.pos, hl]
  rfl
end
end
end L2

set_option Elab.async false
set_option linter.all false
set_option maxRecDepth 100000
namespace Dn
open PySem PySem.Spec L2
open Rep (rep)
open ORep (orep)
section
variable {c : Ct} {env : List Slot} {e kx vx iter tg : Expr} {α β : Type} [Rep α] [Rep β]
def EvM (K : PySem.W.Frag) (env : List Slot) (t : TE) (d : Dct β) : Prop := ∀ (B H : Hp) (σ : St), Env K B H σ env → ∀ Q : VK, (∀ p xs B' H', H p = none → Grow B H B' H' → B' p = none → H' p = some (dHO p xs) → DRel K B' xs d.l → Q (.ref p) H') → t σ H Q
def DeM (c : Ct) (env : List Slot) (e : Expr) (m : Option (Dct β)) : Prop := ∃ t, (∀ X, Fits c X → PE X e t) ∧ ∀ d, m = some d → EvM c.K env t d
theorem EvM.de {K : PySem.W.Frag} {t : TE} {d : Dct β} (h2 : EvM K env t d) : EvE K env t d := by
  refine fun B H σ E Q q => h2 B H σ E Q fun p xs B' H' np g nb hp r => ?_
  have hB : Le (upd B' p (dHO p xs)) H' := fun a u z => by
    by_cases k : a = p
    · subst k
      rw [upd_same] at z
      rw [hp, z]
    · rw [upd_ne k] at z
      exact g.bh a u z
  refine q (.ref p) (upd B' p (dHO p xs)) H' ⟨g.b.trans (Le.put nb), hB, g.h, fun a z n => ?_⟩ ⟨p, xs, rfl, upd_same, r.mono (Le.put nb)⟩
  rw [upd_ne (fun k => n (by rw [k]; exact np))]
  exact g.f a z n
theorem DeM.de {m : Option (Dct β)} (h : DeM c env e m) : De c env e m := by
  obtain ⟨t, h1, h2⟩ := h
  exact ⟨t, h1, fun x hx => (h2 x hx).de⟩
def AsM (c : Ct) (env : List Slot) (st : Stmt) (i : Nat) (m : Option (Dct β)) : Prop := ∃ te, (∀ X, Fits c X → PS X st (tAsg te (gName i))) ∧ ∀ d, m = some d → EvM c.K env te d
end
section
variable {S L R : Type} [Rep R] {c : Ct} {env : List Slot} {st : Stmt} {rest : List Stmt} {mk : S → List Slot} {lk : L → List Slot} {β : Type} [Rep β]
end
end Dn

set_option Elab.async false
set_option linter.all false
set_option maxRecDepth 100000
namespace L2
section
open PySem PySem.Spec PyProof.Rows
open Dn (Ent dHO KeyAt putE putE_len put_rel dH isKey dPhi)
end
end L2
namespace Dn
open PySem PySem.Spec L2
open Rep (rep)
section
variable {c : Ct} {env : List Slot} {k v : Expr} {β : Type} [Rep β]
theorem AsM.toE {st : Stmt} {i : Nat} {m : Option (Dct β)} (h : AsM c env st i m) : AsE c env st i m := by
  obtain ⟨te, h1, h2⟩ := h
  exact ⟨te, h1, fun x hx => (h2 x hx).de⟩
end
end Dn

set_option Elab.async false
set_option linter.all false
namespace Dn
open PySem PySem.Spec L2
open Rep (rep)
open ORep (orep)
def ov {α : Type} [Rep α] : Option α → Slot
  | none => .any
  | some x => .val x
end Dn

set_option Elab.async false
set_option linter.all false
set_option maxRecDepth 100000
namespace Dn
open PySem PySem.Spec PyProof.Rows L2
open Rep (rep)
open ORep (orep)
section
variable {c : Ct} {env : List Slot} {a e : Expr}
end
end Dn

set_option Elab.async false
set_option linter.all false
set_option maxRecDepth 100000
namespace Dn
open PySem PySem.Spec PyProof.Rows L2
open Rep (rep)
open ORep (orep)
end Dn

set_option Elab.async false
set_option linter.all false
set_option maxRecDepth 100000
namespace Dn
open PySem PySem.Spec L2
open Rep (rep)
open ORep (orep)
section
variable {c : Ct} {env : List Slot} {b : Expr} {α : Type} [Rep α]
end
end Dn

set_option Elab.async false
set_option linter.all false
set_option maxRecDepth 100000
namespace Dn
open PySem PySem.Spec L2
abbrev Po := Tup (Tup Int × Int)
theorem lay_all {α : Type} [Dat α] (h : ∀ x : α, lay x = true) : ∀ xs : List α, PyData.canLayAll0 (xs.map Dat.toD) = true
  | [] => by rw [List.map_nil, PyData.canLayAll0]
  | x :: xs => by
    rw [List.map_cons, PyData.canLayAll0, lay_all h xs, Bool.and_true]
    exact h x
theorem lay_int (x : Int) : lay x = true := by
  unfold lay
  show (PyData.int x).canLay0 = true
  rw [PyData.canLay0]
theorem lay_tup {α : Type} [Dat α] (h : ∀ x : α, lay x = true) (xs : Tup α) : lay xs = true := by
  unfold lay
  show (PyData.tuple (xs.l.map Dat.toD)).canLay0 = true
  rw [PyData.canLay0]
  exact lay_all h xs.l
theorem lay_list {α : Type} [Dat α] (h : ∀ x : α, lay x = true) (xs : List α) : lay xs = true := by
  unfold lay
  show (PyData.list (xs.map Dat.toD)).canLay0 = true
  rw [PyData.canLay0]
  exact lay_all h xs
theorem nodup_of_lt {xs : List (Tup Int)} (h : xs.Pairwise fun a b => b.l < a.l) : xs.Nodup :=
  List.Pairwise.imp (fun {a b} (q : b.l < a.l) e => by rw [e] at q; exact List.lt_irrefl _ q) h
section
variable {α : Type}
def Dct.keys (d : Dct α) : List (Tup Int) := d.l.map (·.1)
theorem Dct.get_none {d : Dct α} {k : Tup Int} (h : k ∉ d.keys) : d.get k = none := by
  unfold Dct.get
  rw [List.find?_eq_none.mpr fun q hq e => h (List.mem_map.mpr ⟨q, hq, of_decide_eq_true e⟩)]
  rfl
theorem Dct.get_of {k : Tup Int} {v : α} : ∀ {l : List (Tup Int × α)}, (l.map (·.1)).Nodup → (k, v) ∈ l → (⟨l⟩ : Dct α).get k = some v
  | [], _, h => nomatch h
  | q :: l, n, h => by
    rw [List.map_cons, List.nodup_cons] at n
    unfold Dct.get
    rw [List.find?_cons]
    cases h with
    | head => rw [decide_eq_true rfl]; rfl
    | tail _ h =>
      have : ¬ q.1 = k := fun e => n.1 (List.mem_map.mpr ⟨(k, v), h, e.symm⟩)
      rw [decide_eq_false this]
      exact Dct.get_of n.2 h
def Dct.val (d : Dct Int) (k : Tup Int) : Int := (d.get k).getD 0
theorem Dct.get_val {d : Dct Int} {k : Tup Int} (h : k ∈ d.keys) : d.get k = some (d.val k) := by
  obtain ⟨v, e⟩ := Dct.get_mem h
  unfold Dct.val
  rw [e]
  rfl
theorem find_map {k j : Tup Int} {v : α} : ∀ l : List (Tup Int × α), ((l.map fun p => if p.1 = k then (p.1, v) else p).find? fun p => decide (p.1 = j)) = (l.find? fun p => decide (p.1 = j)).map fun p => if p.1 = k then (p.1, v) else p
  | [] => rfl
  | q :: l => by
    rw [List.map_cons, List.find?_cons, List.find?_cons]
    have e : (if q.1 = k then (q.1, v) else q).1 = q.1 := by split <;> rfl
    rw [e]
    cases decide (q.1 = j)
    · exact find_map l
    · rfl
theorem Dct.get_put (d : Dct α) (k j : Tup Int) (v : α) : (d.put k v).get j = if j = k then some v else d.get j := by
  by_cases q : (d.get k).isSome = true
  · unfold Dct.put
    rw [if_pos q]
    by_cases z : j = k
    · rw [if_pos z]
      subst z
      unfold Dct.get at q ⊢
      show ((List.map _ d.l).find? _).map _ = _
      rw [find_map]
      cases e : d.l.find? (fun p => decide (p.1 = j)) with
      | none => rw [e] at q; cases q
      | some p =>
        have : p.1 = j := of_decide_eq_true (List.find?_some (p := fun p : Tup Int × α => decide (p.1 = j)) e)
        show some (if p.1 = j then (p.1, v) else p).2 = _
        rw [if_pos this]
    · rw [if_neg z]
      unfold Dct.get
      show ((List.map _ d.l).find? _).map _ = _
      rw [find_map]
      cases e : d.l.find? (fun p => decide (p.1 = j)) with
      | none => rfl
      | some p =>
        have : p.1 = j := of_decide_eq_true (List.find?_some (p := fun p : Tup Int × α => decide (p.1 = j)) e)
        show some (if p.1 = k then (p.1, v) else p).2 = some p.2
        rw [if_neg (by rw [this]; exact z)]
  · unfold Dct.put
    rw [if_neg q]
    unfold Dct.get
    show ((d.l ++ [(k, v)]).find? _).map _ = _
    rw [List.find?_append]
    by_cases z : j = k
    · rw [if_pos z]
      subst z
      have : d.l.find? (fun p => decide (p.1 = j)) = none := by
        unfold Dct.get at q
        cases e : d.l.find? (fun p => decide (p.1 = j)) with
        | none => rfl
        | some p => rw [e] at q; exact absurd rfl q
      rw [this]
      rw [Option.none_or, List.find?_cons, decide_eq_true rfl]
      rfl
    · rw [if_neg z]
      have : List.find? (fun p : Tup Int × α => decide (p.1 = j)) [(k, v)] = none := by
        rw [List.find?_cons, decide_eq_false (fun e => z e.symm)]
        rfl
      rw [this, Option.or_none]
end
def sumK (k : Tup Int) (xs : List (Tup Int × Int)) : Int := (xs.map fun q => if q.1 = k then q.2 else 0).sum
theorem loop_fold {L R T α : Type} {f : α → T → Fl T T R} (g : T → α → T) (I : Nat → T → Prop) {N : Nat} : ∀ {xs : List α} {n : Nat} {s : T}, (∀ x ∈ xs, ∀ (m : Nat) (s : T), m < N → I m s → f x s = .nx (g s x) ∧ I (m + 1) (g s x)) → n + xs.length ≤ N → I n s → (Fl.loop f xs s : Fl T L R) = .nx (xs.foldl g s)
  | [], n, s, _, _, _ => rfl
  | x :: xs, n, s, h, hN, i => by
    rw [List.length_cons] at hN
    have hx := h x (List.mem_cons_self ..) n s (by omega) i
    unfold Fl.loop
    rw [hx.1]
    show (Fl.loop f xs (g s x) : Fl T L R) = _
    exact loop_fold g I (fun z hz => h z (List.mem_cons_of_mem _ hz)) (by omega) hx.2
theorem compO_filter {α : Type} {h : α → Option (Option α)} (V : α → Bool) : ∀ {xs : List α}, (∀ x ∈ xs, h x = if V x = true then some (some x) else some none) → compO h xs = some (xs.filter V)
  | [], _ => rfl
  | x :: xs, hh => by
    show (h x).bind _ = _
    rw [hh x (List.mem_cons_self ..), compO_filter V fun z hz => hh z (List.mem_cons_of_mem _ hz), List.filter_cons]
    cases V x <;> rfl
theorem mapO_val {α β : Type} {h : α → Option β} {g : α → β} : ∀ {xs : List α}, (∀ x ∈ xs, h x = some (g x)) → mapO h xs = some (xs.map g)
  | [], _ => rfl
  | x :: xs, hh => by
    show (h x).bind _ = _
    rw [hh x (List.mem_cons_self ..), mapO_val fun z hz => hh z (List.mem_cons_of_mem _ hz)]
    rfl
def Pol (m : Nat) (p : Int) (t : Po) : Prop := t.l.length ≤ m ∧ (∀ q ∈ t.l, 1 ≤ q.1.l.length ∧ 0 ≤ q.2 ∧ q.2 < p) ∧ (t.l.map (·.1)).Pairwise fun a b => b.l < a.l
theorem Pol.nd {m : Nat} {p : Int} {t : Po} (h : Pol m p t) : (t.l.map (·.1)).Nodup := nodup_of_lt h.2.2
end Dn

set_option Elab.async false
set_option linter.all false
set_option maxRecDepth 100000
namespace Dn
open PySem PySem.Spec L2
theorem foldl_sum {α : Type} (f : α → Int) : ∀ (l : List α) (z : Int), l.foldl (fun t q => t + f q) z = z + (l.map f).sum
  | [], z => by simp
  | x :: xs, z => by
    show xs.foldl (fun t q => t + f q) (z + f x) = _
    rw [foldl_sum f xs, List.map_cons, List.sum_cons, Int.add_assoc]
end Dn

set_option Elab.async false
set_option linter.all false
set_option maxRecDepth 100000
namespace Dn
open PySem PySem.Spec L2
open Rep (rep)
open ORep (orep)
section
variable {c : Ct} {env : List Slot} {e a : Expr} {α β : Type} [Rep α] [Rep β]
class NN (α : Type) [Rep α] : Prop where
  nn : ∀ (K : PySem.W.Frag) (B : Hp) (v : V) (x : α), rep K B v x → v ≠ V.non
instance : NN Int := ⟨fun K B v x h e => by cases h; cases e⟩
instance {α : Type} [Rep α] : NN (Tup α) := ⟨fun K B v x h e => by
  obtain ⟨a, vs, rfl, _⟩ := h
  cases e⟩
instance {α : Type} [Rep α] : NN (List α) := ⟨fun K B v x h e => by
  obtain ⟨a, vs, rfl, _⟩ := h
  cases e⟩
end
section
variable {S L β α : Type} [ORep β] [Rep α] {c : Ct} {env : List Slot} {st : Stmt} {rest : List Stmt} {mk : S → List Slot} {lk : L → List Slot}
theorem dsn_set {i : Nat} {m : Option α} {k : α → Fl S L β} (h : AsE c env st i m) (g : ∀ x, DeSN c (env.set i (.val x)) rest mk lk (k x)) : DeSN c env (st :: rest) mk lk (Fl.bindO m k) := .mk fun B0 H0 B H σ O D P => by
  obtain ⟨x, ex, P⟩ := postN_bindO P
  obtain ⟨t, h1, h2⟩ := h
  refine cS_cons h1 ?_
  exact h2 x ex B H σ O.en _ fun v B1 H1 k1 r => g x B0 H0 B1 H1 _ ((O.grow k1).setV i r) D (P.mono k1.b)
end
section
variable {c : Ct} {env : List Slot} {e : Expr} {es : List Expr} {α β γ R : Type} [Rep α] [Rep β] [Rep γ] [ORep R]
structure DfN (c : Ct) (x : Str) {P R : Type} [Pk P] [ORep R] (f : P → Option R) : Prop where
  ok : ∃ (j : Nat) (fa : Addr) (fd : FuncData) (ps : List Str), FnOk c.P c.w c.K c.mg c.base CX0 j fa fd ps (spN c.K f) ∧ j ≤ c.k ∧ c.mg x = some (.ref fa) ∧ PySem.W.keepIn c.K (.ref fa) = true ∧ Binds c.K fd ps []
structure GdN (P : Program) (w : World) (K : PySem.W.Frag) (mg : Str → Option Value) (base : Heap) (j : Nat) (x : Str) {Q R : Type} [Pk Q] [ORep R] (f : Q → Option R) : Prop where
  ok : ∃ (fa : Addr) (fd : FuncData) (ps : List Str), FnOk P w K mg base CX0 j fa fd ps (spN K f) ∧ mg x = some (.ref fa) ∧ PySem.W.keepIn K (.ref fa) = true ∧ Binds K fd ps []
theorem GdN.df {P : Program} {w : World} {K : PySem.W.Frag} {mg : Str → Option Value} {base : Heap} {j : Nat} {x : Str} {Q R : Type} [Pk Q] [ORep R] {f : Q → Option R} (G : GdN P w K mg base j x f) {c : Ct} (hP : c.P = P := by rfl) (hw : c.w = w := by rfl) (hK : c.K = K := by rfl) (hmg : c.mg = mg := by rfl) (hb : c.base = base := by rfl) (hj : j ≤ c.k := by exact Nat.le_of_ble_eq_true rfl) : DfN c x f := by
  obtain ⟨P', w', K', mg', base', k, N, sc, fn, df⟩ := c
  cases hP; cases hw; cases hK; cases hmg; cases hb
  obtain ⟨fa, fd, ps, h1, h2, h3, h4⟩ := G.ok
  exact ⟨j, fa, fd, ps, h1, hj, h2, h3, h4⟩
theorem Tf.gdN {P : Program} {w : World} {K : PySem.W.Frag} {mg : Str → Option Value} {base : Heap} {x : Str} {st : Stmt} {Pp S L R : Type} [Pk Pp] [ORep R] {N ps : List Str} {k : Nat} {mk : S → List Slot} {lk : L → List Slot} {m : Pp → Fl S L R} (T : Tf K mg x st ps) (Sc : FnScope N ps (defScope st)) (np : ps.length ≤ N.length)
    (hn : ∀ p : Pp, (Pk.sl p).length = ps.length)
    (hb : ∀ p : Pp, DeSN (ctOf P w K mg base k N (defScope st)) (Pk.sl p ++ List.replicate (N.length - (Pk.sl p).length) .any) (defBody st) mk lk (m p)) : GdN P w K mg base (k + 1) x (fun p => (m p).fin none) := by
  obtain ⟨fa, fd, hm, F, hb'⟩ := T.ok
  exact ⟨fa, fd, ps, fn_okN F Sc np hn hb, hm, F.kp, hb'⟩
theorem dn_call {P : Type} [Pk P] {f : P → Option R} {x : Str} {p pos : Pos} {m : Option P} (D : DfN c x f) (h : DeP c env (e :: es) m) (hg : Gv c x := by rfl) (hdb : (x == ("__debug__" : Str)) = false := by decide)
    (he : ∀ env, starEach (e :: es) env = (false, eval e env) :: starEach es env := by intro _; rfl) (hpl : ∀ env, (backTo pos (starEach es env)).any (·.1) = false := by intro _; rfl) : DeN c env (.Call (.Name x p) (e :: es) [] pos) (m.bind f) := by
  obtain ⟨j, fa, fd, ps, F, hj, hm, hk, hb⟩ := D.ok
  obtain ⟨t, h1, h2⟩ := h
  refine ⟨tCall (spN c.K f) [] E0 t, fun X Fx => ?_, fun z hz B H σ E Q q => ?_⟩
  · refine pe_call (CX := CX0) (k := j) (f := fa) (fd := fd) (ps := ps) (ds := []) ?_ (Fx.room.mono hj) (fits_gl Fx hg) (by rw [Fx.mg]; exact hm) (by rw [Fx.K]; exact hk) (by rw [Fx.K]; exact hb) .nil pass0 (h1 X Fx) hdb (he _) (hpl _)
    rw [Fx.P, Fx.w, Fx.K, Fx.mg, Fx.base]
    exact F
  · obtain ⟨y, ey, hz⟩ := bind_some hz
    refine h2 y ey B H σ E _ fun vs B1 H1 k1 ha => ?_
    rw [List.append_nil]
    exact ⟨y, z, B1, hz, k1.bh, ha, fun p' o' B2 H2 np k2 nb hp r2 => q p' o' B2 H2 (k1.none np) (k1.trans k2) nb hp r2⟩
theorem dn_call3 {f : α × β × γ × Unit → Option R} {x : Str} {p pos : Pos} {e1 e2 e3 : Expr} {m1 : Option α} {m2 : Option β} {m3 : Option γ} (D : DfN c x f) (h1 : De c env e1 m1) (h2 : De c env e2 m2) (h3 : De c env e3 m3) (hg : Gv c x := by rfl) (hdb : (x == ("__debug__" : Str)) = false := by decide)
    (he : ∀ env, starEach [e1, e2, e3] env = (false, eval e1 env) :: starEach [e2, e3] env := by intro _; rfl) (he2 : ∀ env, starEach [e2, e3] env = (false, eval e2 env) :: starEach [e3] env := by intro _; rfl) (he3 : ∀ env, starEach [e3] env = (false, eval e3 env) :: starEach [] env := by intro _; rfl) :
    DeN c env (.Call (.Name x p) [e1, e2, e3] [] pos) (m1.bind fun a1 => m2.bind fun a2 => m3.bind fun a3 => f (a1, a2, a3, ())) :=
  Eq.subst bind3 (motive := fun m => DeN c env (.Call (.Name x p) [e1, e2, e3] [] pos) m) (dn_call D (dp_cons h1 (dp_cons h2 (dp_cons h3 dp_nil he3) he2) he) hg hdb he (fun _ => by rw [he2, he3]; rfl))
end
end Dn

set_option Elab.async false
set_option linter.all false
set_option maxRecDepth 100000
namespace Dn
section
open PySem PySem.Spec PyProof.Rows L2
def pickG {α : Type} (xs : List α) (lo hi st : Option Int) : List α := (sliceRange (sliceBounds lo hi st xs.length).1 (sliceBounds lo hi st xs.length).2.1 (sliceBounds lo hi st xs.length).2.2).filterMap fun i => xs[i]?
def tStepL (K : PySem.W.Frag) (te : TE) (tl ts : TO) : TE := fun σ H Q => te σ H fun x H1 => tl σ H1 fun lo H2 => ts σ H2 fun st H3 => ∃ a xs, x = .ref a ∧ SqL K H3 a xs ∧ st ≠ some 0 ∧ (pickG xs lo none st).length ≤ sizeLine ∧ ∀ p, H3 p = none → Q (.ref p) (upd H3 p (.lst (pickG xs lo none st)))
theorem vals_pick {xs : List V} {its : List Value} (r : Vals xs its) (is : List Nat) : Vals (is.filterMap fun i => xs[i]?) (is.filterMap fun i => its[i]?) := by
  induction is with
  | nil => exact .nil
  | cons i is ih =>
    rw [List.filterMap_cons, List.filterMap_cons]
    cases e : xs[i]? with
    | none =>
      have : its[i]? = none := by
        rw [List.getElem?_eq_none_iff] at e ⊢
        rw [← r.length]
        exact e
      rw [this]
      exact ih
    | some x =>
      obtain ⟨u, eu, ru⟩ := r.get e
      rw [eu]
      exact .cons ru ih
theorem pe_stepL {X : Cx} {e : Expr} {te : TE} {lo st : Option Expr} {tl ts : TO} {p2 pos : Pos} (he : PE X e te) (hl : PO X lo tl) (hst : PO X st ts) (hop : ∀ (a s : Value), subscripted (.Slice lo none st p2) false a s = operate [a, s] (getItem a s) := by intro _ _; rfl) :
    PE X (.Subscript e (.Slice lo none st p2) pos) (tStepL X.K te tl ts) := by
  refine ⟨fun pins s σ H Q I h => ?_⟩
  refine Subscript_ (thn (he.run pins s σ H _ I h) fun v s1 ⟨x, H1, I1, r1, q1⟩ => ?_)
  refine wpAny_Slice (thn (hl.run pins s1 σ H1 _ I1 q1) fun vl s2 ⟨l, H2, I2, pl, q2⟩ => ?_)
  refine thn (po_none.run pins s2 σ H2 (fun o H3 => o = none ∧ H3 = H2) I2 ⟨rfl, rfl⟩) fun vu s3 ⟨u, H3, I3, pu, eu, e3⟩ => ?_
  subst eu e3
  refine thn (hst.run pins s3 σ H3 _ I3 q2) fun vs s4 ⟨o, H4, I4, ps, a, xs, ex, hx, hne, hsz, q⟩ => ?_
  subst ex
  cases r1
  have I5 : Inv X pins σ H4 { s4 with heap := s4.heap.push { cls := .type "slice", data := .fields #[vl, vu, vs] } } := I4.kept (t' := s4.toks) fun b ob q => Heap.get?_push_of_some _ q
  obtain ⟨its, r, ht, hz⟩ := I5.list hx
  have hlen := r.length
  show wpAny (model X.prog X.w) X.A (subscriptTail e (.Slice lo none st p2) (.ref a) (.ref s4.heap.objs.size)) (EP X pins σ Q) X.xe { s4 with heap := s4.heap.push { cls := .type "slice", data := .fields #[vl, vu, vs] } }
  refine tail_any (ops := [.ref a, .ref s4.heap.objs.size]) ht.isList.typeIs (PySem.slot_list_getitem.lookup) ?_ (hop _ _)
  refine wpAny_getItem_list_slice ht.isList (Heap.IsSliceOf.new _ _ _ _) pl pu ps hne ?_ (by rw [List.size_toArray, ← hlen]; exact hz)
  have es : slicePick its.toArray l none o = (pickG its l none o).toArray := by
    unfold slicePick pickG
    have : (fun i : Nat => its.toArray[i]?) = fun i => its[i]? := funext fun i => List.getElem?_toArray ..
    rw [List.size_toArray, this]
  have rv : Vals (pickG xs l none o) (pickG its l none o) := by
    unfold pickG
    rw [hlen]
    exact vals_pick r _
  rw [es]
  refine ⟨.ref _, _, I5.laid (t' := s4.toks) (o := .lst (pickG xs l none o)) (fun b ob q => Heap.get?_push_of_some _ q) (Nat.le_refl _) ?_, rfl, q _ (I5.hok.fresh (Nat.le_refl _))⟩
  exact ⟨hsz, _, 0, rv, Heap.get?_push_size _ rfl⟩
end
open PySem PySem.Spec L2
open Rep (rep)
open ORep (orep)
section
variable {c : Ct} {env : List Slot} {a e l s : Expr} {α : Type} [Rep α]
theorem reps_pick {K : PySem.W.Frag} {B : Hp} {vs : List V} {xs : List α} (r : Reps K B vs xs) (is : List Nat) : Reps K B (is.filterMap fun i => vs[i]?) (is.filterMap fun i => xs[i]?) := by
  induction is with
  | nil => exact .nil
  | cons i is ih =>
    rw [List.filterMap_cons, List.filterMap_cons]
    cases e : vs[i]? with
    | none =>
      have : xs[i]? = none := by
        rw [List.getElem?_eq_none_iff] at e ⊢
        rw [← r.len]
        exact e
      rw [this]
      exact ih
    | some v =>
      obtain ⟨x, ex, rx⟩ := r.get e
      rw [ex]
      exact .cons rx ih
theorem Reps.pick {K : PySem.W.Frag} {B : Hp} {vs : List V} {xs : List α} (r : Reps K B vs xs) (lo hi st : Option Int) : Reps K B (pickG vs lo hi st) (pickG xs lo hi st) := by
  unfold pickG
  rw [r.len]
  exact reps_pick r _
theorem dn_stepL {p2 pos : Pos} {m : Option (List α)} {ml ms : Option Int} (h : De c env e m) (hl : De c env l ml) (hst : De c env s ms) (hop : ∀ (a z : Value), subscripted (.Slice (some l) none (some s) p2) false a z = operate [a, z] (getItem a z) := by intro _ _; rfl) :
    DeN c env (.Subscript e (.Slice (some l) none (some s) p2) pos) (m.bind fun xs => ml.bind fun i => ms.bind fun k => if 0 < k ∧ (pickG xs (some i) none (some k)).length ≤ 100000 then some (pickG xs (some i) none (some k)) else none) := by
  obtain ⟨t, h1, h2⟩ := h
  obtain ⟨tl, l1, l2⟩ := hl
  obtain ⟨tst, s1, s2⟩ := hst
  refine ⟨tStepL c.K t (tPart tl) (tPart tst), fun X F => by rw [← F.K]; exact pe_stepL (h1 X F) (po_some (l1 X F)) (po_some (s1 X F)) hop, fun z hz B H σ E Q q => ?_⟩
  obtain ⟨xs, ex, hz⟩ := bind_some hz
  obtain ⟨i, ei, hz⟩ := bind_some hz
  obtain ⟨k, ek, hz⟩ := bind_some hz
  split at hz
  · rename_i hk
    cases hz
    refine h2 xs ex B H σ E _ fun v B1 H1 k1 r => ?_
    refine l2 i ei B1 H1 σ (E.grow k1) _ fun v2 B2 H2 k2 r2 => ?_
    cases r2
    refine ⟨i, rfl, ?_⟩
    refine s2 k ek B2 H2 σ (E.grow (k1.trans k2)) _ fun v3 B3 H3 k3 r3 => ?_
    cases r3
    refine ⟨k, rfl, ?_⟩
    obtain ⟨p1, vs, rfl, sl, r⟩ := r
    have r := r.mono (k2.b.trans k3.b)
    have kk := (k1.trans k2).trans k3
    have rp := Reps.pick r (some i) none (some k)
    refine ⟨p1, vs, rfl, kk.bh.l ((k2.b.trans k3.b).l sl), fun e => by have := Option.some.inj e; omega, by rw [rp.len]; exact Nat.le_trans hk.2 (by decide), fun p hn => q p _ B3 _ (kk.none hn) (kk.trans (Grow.free kk.bh hn)) (kk.bh.none hn) upd_same ⟨_, rfl, rp⟩⟩
  · cases hz
end
section
variable {S T L R α : Type}
theorem loop_takeN {f : α → T → Fl T T R} {xs : List α} {i : Nat} {x : α} {s : T} (e : xs[i]? = some x) : (Fl.loop f (xs.drop i) s : Fl T L R) = match f x s with
    | .err => .err
    | .nx s' => Fl.loop f (xs.drop (i + 1)) s'
    | .ct s' => Fl.loop f (xs.drop (i + 1)) s'
    | .bk s' => .nx s'
    | .rt r => .rt r := by
  have hl := (List.getElem?_eq_some_iff.mp e).1
  have hx := (List.getElem?_eq_some_iff.mp e).2
  rw [List.drop_eq_getElem_cons hl, hx]
  rfl
end
section
variable {S T L R : Type} [ORep R]
variable {c : Ct} {env env' : List Slot} {st : Stmt} {rest b b' : List Stmt} {e a d : Expr} {mk : S → List Slot} {lk : L → List Slot} {α β γ : Type} [Rep α] [Rep β] [Rep γ]
theorem dsn_forT {f' : α → List Slot → List Slot} {is : List Nat} {tg iter : Expr} {pos : Pos} {m : Option (List α)} {sk : T → List Slot} {s0 : T} {f : α → T → Fl T T R} {k : T → Fl S L R} (hi : DeItT c env tg iter m) (hg : DeTg c tg f' is) (w : Wk env (sk s0))
    (hb : ∀ x s, DeSN c (f' x (sk s)) b sk sk (f x s)) (g : ∀ s, DeSN c (sk s) rest mk lk (k s)) (hs : ∀ env x, foldedSetIterable iter env x = pure x := by intro _ _; rfl) :
    DeSN c env (.For tg iter b [] pos :: rest) mk lk (Fl.bindO m fun xs => (Fl.loop f xs s0 : Fl T L R).bind k) := .mk fun B0 H0 B H σ O D P => by
  obtain ⟨xs, exs, P⟩ := postN_bindO P
  obtain ⟨wi, i1, i2⟩ := hi
  obtain ⟨gt, g1, g2⟩ := hg
  refine cS_cons (fun X F => ps_for (by rw [F.xe]; exact PassesOwn.never) F.calm (i1 X F) (g1 X F) (cS_ps X F) (hs _)) ?_
  refine i2 xs exs B H σ O.en _ fun J B1 H1 k1 ⟨G, Y, W, hG, hY⟩ => ?_
  generalize hm : (Fl.loop f xs s0 : Fl T L R) = total at P
  refine for_it W (fun i σ' H' => ∃ B' s, StOk c.K B0 H0 B' H' σ' (sk s) ∧ Le B1 B' ∧ (Fl.loop f (xs.drop i) s : Fl T L R) = total) ⟨B1, s0, (O.grow k1).wk w, Le.refl _, hm⟩
    (fun i σ' H' _ ⟨B', s, O', l', _⟩ => hG H' (l'.trans O'.en.bh)) (fun i v σ' H' H2 hi ⟨B', s, O', l', ht⟩ y => ?_) fun σ' H' ⟨B', s, O', l', ht⟩ => ?_
  · obtain ⟨B2, x, k2, ex, rx⟩ := hY i B' H' v H2 hi l' O'.en.bh y
    have O2 := O'.grow k2
    refine g2.run x (sk s) B2 H2 σ' v O2.en rx _ fun σ3 E3 _ kp no => ?_
    have O3 : StOk c.K B0 H0 B2 H2 σ3 (f' x (sk s)) := O2.retarget E3 kp no
    rw [loop_takeN ex] at ht
    refine hb x s B0 H0 B2 H2 σ3 O3 _ ?_
    cases hf : f x s with
    | err =>
      rw [hf] at ht
      rw [← ht] at P
      exact P
    | nx s' =>
      rw [hf] at ht
      exact fun B4 H4 σ4 l4 O4 => ⟨B4, s', O4, (l'.trans k2.b).trans l4, ht⟩
    | ct s' =>
      rw [hf] at ht
      exact fun B4 H4 σ4 l4 O4 => ⟨B4, s', O4, (l'.trans k2.b).trans l4, ht⟩
    | bk s' =>
      rw [hf] at ht
      rw [← ht] at P
      exact fun B4 H4 σ4 l4 O4 => g s' B0 H0 B4 H4 σ4 O4 D (P.mono ((k1.b.trans (l'.trans k2.b)).trans l4))
    | rt r =>
      rw [hf] at ht
      rw [← ht] at P
      exact P
  · rw [List.drop_length] at ht
    rw [← ht] at P
    exact g s B0 H0 B' H' σ' O' D (P.mono (k1.b.trans l'))
theorem dsn_for {f' : α → List Slot → List Slot} {is : List Nat} {tg iter : Expr} {pos : Pos} {m : Option (List α)} {sk : T → List Slot} {s0 : T} {f : α → T → Fl T T R} {k : T → Fl S L R} (hi : DeIt c env iter m) (hg : DeTg c tg f' is) (w : Wk env (sk s0))
    (hb : ∀ x s, DeSN c (f' x (sk s)) b sk sk (f x s)) (g : ∀ s, DeSN c (sk s) rest mk lk (k s)) (hs : ∀ env x, foldedSetIterable iter env x = pure x := by intro _ _; rfl) :
    DeSN c env (.For tg iter b [] pos :: rest) mk lk (Fl.bindO m fun xs => (Fl.loop f xs s0 : Fl T L R).bind k) := dsn_forT hi.t hg w hb g hs
end
section
open PySem PySem.Spec L2
variable {c : Ct} {env : List Slot} {e a b d t elt iter tg : Expr} {es : List Expr} {α β γ : Type} [Rep α] [Rep β] [Rep γ]
theorem as_compT (i : Nat) {y : Str} {py pos spos : Pos} {scope : Scope} {own : List (Str × Nat)} {is : List Nat} {f : α → List Slot → List Slot} {m : Option (List α)} {h : α → Option γ} (nd : c.N.Nodup) (hN : c.N[i]? = some y) (hy : c.sc.names.lookup y = some .local) (hk : c.sc.kind = .function) (hl : (py.line == pos.line) = true)
    (hn : (scope.names.any fun (n, k) => n == y && (k == .local || k == .cell)) = false) (hi : DeItT c env tg iter m) (ok : BlkOk c.N c.sc scope own) (hg : DeTg (c.blk scope) tg f is) (sub : ∀ i ∈ is, i ∈ own.map (·.2))
    (he : ∀ x, De (c.blk scope) (f x (wipeE env (own.map (·.2)))) elt (h x)) (hs : ∀ env x, foldedSetIterable iter env x = pure x := by intro _ _; rfl) :
    AsN c env (.Assign [.Name y py] (.ListComp elt [⟨tg, iter, [], 0⟩] scope pos) spos) i (m.bind fun xs => (capI xs).bind fun xs => mapO h xs) := by
  obtain ⟨wi, i1, i2⟩ := hi
  obtain ⟨g, g1, g2⟩ := hg
  refine ⟨_, fun X F => ps_setLc F.calm (by rw [F.N]; exact nd) (fits_ix F hN) (by rw [F.sc]; exact hy) (sw_true (by rw [F.sc]; exact hk) (by rw [F.sc]; exact hy) hl hn) (i1 X F) (by rw [F.N, F.sc]; exact ok) (fun s H C cl fp => g1 _ (F.blk s H scope C cl fp)) (fun s H C cl fp => pts_nil) (fun s H C cl fp => cE_pe _ (F.blk s H scope C cl fp)) (hs _), fun z hz => ?_⟩
  obtain ⟨xs, ex, hz⟩ := bind_some hz
  obtain ⟨xs', hc, hz⟩ := bind_some hz
  unfold capI at hc
  split at hc
  · rename_i hl
    cases hc
    rw [← mapO_comp] at hz
    refine ev_comp (i2 xs ex) g2 sub (fun x o eo B H σ E Q q => ?_) (fun x y ey => (he x).can y ?_) (of_decide_eq_true hl) hz
    · cases o with
      | none =>
        cases g : h x with
        | none => rw [g] at eo; cases eo
        | some y => rw [g] at eo; cases eo
      | some y => exact q B H (Grow.refl E.bh)
    · cases g : h x with
      | none => rw [g] at ey; cases ey
      | some y' => rw [g] at ey; cases ey; rfl
  · cases hc
theorem as_compIfT (i : Nat) {y : Str} {py pos spos : Pos} {scope : Scope} {own : List (Str × Nat)} {is : List Nat} {f : α → List Slot → List Slot} {m : Option (List α)} {p : α → Option Bool} {h : α → Option γ} (nd : c.N.Nodup) (hN : c.N[i]? = some y) (hy : c.sc.names.lookup y = some .local) (hk : c.sc.kind = .function) (hl : (py.line == pos.line) = true)
    (hn : (scope.names.any fun (n, k) => n == y && (k == .local || k == .cell)) = false) (hi : DeItT c env tg iter m) (ok : BlkOk c.N c.sc scope own) (hg : DeTg (c.blk scope) tg f is) (sub : ∀ i ∈ is, i ∈ own.map (·.2))
    (ht : ∀ x, DeT (c.blk scope) (f x (wipeE env (own.map (·.2)))) t (p x)) (he : ∀ x, De (c.blk scope) (f x (wipeE env (own.map (·.2)))) elt (h x)) (hs : ∀ env x, foldedSetIterable iter env x = pure x := by intro _ _; rfl) :
    AsN c env (.Assign [.Name y py] (.ListComp elt [⟨tg, iter, [t], 0⟩] scope pos) spos) i (m.bind fun xs => (capI xs).bind fun xs => compO (fun x => (p x).bind fun k => if k = true then (h x).map some else some none) xs) := by
  obtain ⟨wi, i1, i2⟩ := hi
  obtain ⟨g, g1, g2⟩ := hg
  refine ⟨_, fun X F => ps_setLc F.calm (by rw [F.N]; exact nd) (fits_ix F hN) (by rw [F.sc]; exact hy) (sw_true (by rw [F.sc]; exact hk) (by rw [F.sc]; exact hy) hl hn) (i1 X F) (by rw [F.N, F.sc]; exact ok) (fun s H C cl fp => g1 _ (F.blk s H scope C cl fp)) (fun s H C cl fp => pts_one (cT_pt _ (F.blk s H scope C cl fp))) (fun s H C cl fp => cE_pe _ (F.blk s H scope C cl fp)) (hs _), fun z hz => ?_⟩
  obtain ⟨xs, ex, hz⟩ := bind_some hz
  obtain ⟨xs', hc, hz⟩ := bind_some hz
  unfold capI at hc
  split at hc
  · rename_i hl
    cases hc
    refine ev_comp (i2 xs ex) g2 sub (fun x o eo => (ht x).can _ ?_) (fun x y ey => (he x).can y ?_) (of_decide_eq_true hl) hz
    · obtain ⟨k, ek, eo⟩ := bind_some eo
      rw [ek]
      cases k with
      | false => cases eo; rfl
      | true =>
        have eo : (h x).map some = some o := eo
        cases g : h x with
        | none => rw [g] at eo; cases eo
        | some y => rw [g] at eo; cases eo; rfl
    · obtain ⟨k, ek, ey⟩ := bind_some ey
      cases k with
      | false => cases ey
      | true =>
        have ey : (h x).map some = some (some y) := ey
        cases g : h x with
        | none => rw [g] at ey; cases ey
        | some y' => rw [g] at ey; cases ey; rfl
  · cases hc
end
open PySem in
theorem sw_cellM {kx vx : Expr} {gs : List Comprehension} {scope : Scope} {pos py : Pos} {y : Str} {l : Nat} {sc : Scope} (hy : sc.names.lookup y = some .cell) : ∀ env : PySem.Env, env.scope = sc → swapsWith (.DictComp kx vx gs scope pos) (some (.Name y py)) l env = pure false := by
  intro env h
  have k : env.kindOf y = some .cell := by
    show env.scope.names.lookup y = some .cell
    rw [h]
    exact hy
  have z : (NameKind.cell == NameKind.local) = false := by decide
  unfold swapsWith
  simp [k, z]
end Dn

set_option Elab.async false
set_option linter.all false
set_option maxRecDepth 100000
namespace Dn
open PySem PySem.Spec L2
def S : Nat → (Nat → Int) → Int
  | 0, _ => 0
  | n + 1, f => S n f + f n
theorem S_congr : ∀ {n : Nat} {f g : Nat → Int}, (∀ i, i < n → f i = g i) → S n f = S n g
  | 0, _, _, _ => rfl
  | n + 1, f, g, h => by
    show S n f + f n = S n g + g n
    rw [S_congr fun i hi => h i (by omega), h n (by omega)]
theorem S_add : ∀ (n : Nat) (f g : Nat → Int), S n (fun i => f i + g i) = S n f + S n g
  | 0, _, _ => rfl
  | n + 1, f, g => by
    show S n (fun i => f i + g i) + (f n + g n) = S n f + f n + (S n g + g n)
    rw [S_add n f g]
    omega
theorem S_mul (c : Int) : ∀ (n : Nat) (f : Nat → Int), S n (fun i => c * f i) = c * S n f
  | 0, _ => by rw [S, S, Int.mul_zero]
  | n + 1, f => by
    show S n (fun i => c * f i) + c * f n = c * (S n f + f n)
    rw [S_mul c n f, Int.mul_add]
theorem S_zero : ∀ n : Nat, S n (fun _ => 0) = 0
  | 0 => rfl
  | n + 1 => by
    show S n (fun _ => 0) + 0 = 0
    rw [S_zero n]
    rfl
theorem S_swap (f : Nat → Nat → Int) (m : Nat) : ∀ n : Nat, S n (fun i => S m (fun j => f i j)) = S m (fun j => S n (fun i => f i j))
  | 0 => (S_zero m).symm
  | n + 1 => by
    show S n (fun i => S m (fun j => f i j)) + S m (fun j => f n j) = S m (fun j => S n (fun i => f i j) + f n j)
    rw [S_swap f m n, S_add]
theorem S_mod (p : Int) : ∀ {n : Nat} {f g : Nat → Int}, (∀ i, i < n → f i % p = g i % p) → S n f % p = S n g % p
  | 0, _, _, _ => rfl
  | n + 1, f, g, h => by
    show (S n f + f n) % p = (S n g + g n) % p
    rw [Int.add_emod, S_mod p fun i hi => h i (by omega), h n (by omega), ← Int.add_emod]
theorem S_one (x : Nat → Int) (i : Nat) : ∀ n : Nat, S n (fun b => x b * (if b = i then 1 else 0)) = if i < n then x i else 0
  | 0 => by rw [S, if_neg (by omega)]
  | n + 1 => by
    show S n (fun b => x b * (if b = i then 1 else 0)) + x n * (if n = i then 1 else 0) = _
    rw [S_one x i n]
    by_cases h : n = i
    · subst h
      rw [if_neg (by omega), if_pos rfl, if_pos (by omega)]
      omega
    · rw [if_neg h, Int.mul_zero, Int.add_zero]
      by_cases q : i < n
      · rw [if_pos q, if_pos (by omega)]
      · rw [if_neg q, if_neg (by omega)]
def Lt (p m : Nat) (R : Nat → Nat → Int) (x : Nat → Int) (i : Nat) : Int := S p fun s => R (i / m) s * x (i % m * p + s)
def Lp (p m : Nat) (R : Nat → Nat → Int) : Nat → (Nat → Int) → Nat → Int
  | 0, x => x
  | k + 1, x => Lp p m R k (Lt p m R x)
def ev (b : Nat) (i : Nat) : Int := if b = i then 1 else 0
theorem ix_lt {p m i s : Nat} (hi : i < m * p) (hs : s < p) : i % m * p + s < m * p := by
  have hm : 0 < m := by
    rcases Nat.eq_zero_or_pos m with h | h
    · rw [h, Nat.zero_mul] at hi; omega
    · exact h
  have := Nat.mod_lt i hm
  have h2 : (i % m + 1) * p ≤ m * p := Nat.mul_le_mul_right p (by omega)
  rw [Nat.add_mul, Nat.one_mul] at h2
  omega
theorem Lt_mod (q : Int) {p m : Nat} (R : Nat → Nat → Int) {x y : Nat → Int} (h : ∀ i, i < m * p → x i % q = y i % q) {i : Nat} (hi : i < m * p) : Lt p m R x i % q = Lt p m R y i % q :=
  S_mod q fun s hs => by rw [Int.mul_emod, h _ (ix_lt hi hs), ← Int.mul_emod]
theorem Lp_mod (q : Int) {p m : Nat} (R : Nat → Nat → Int) : ∀ (k : Nat) {x y : Nat → Int}, (∀ i, i < m * p → x i % q = y i % q) → ∀ {i : Nat}, i < m * p → Lp p m R k x i % q = Lp p m R k y i % q
  | 0, _, _, h, i, hi => h i hi
  | k + 1, _, _, h, i, hi => Lp_mod q R k (fun i hi => Lt_mod q R h hi) hi
def ofL (xs : List Int) (i : Nat) : Int := xs.getD i 0
def tab (n : Nat) (f : Nat → Int) : List Int := (List.range n).map f
theorem tab_len (n : Nat) (f : Nat → Int) : (tab n f).length = n := by
  unfold tab
  rw [List.length_map, List.length_range]
theorem ofL_tab {n : Nat} (f : Nat → Int) {i : Nat} (h : i < n) : ofL (tab n f) i = f i := by
  unfold ofL tab
  rw [List.getD_eq_getElem?_getD, List.getElem?_map, List.getElem?_range h]
  rfl
theorem tab_congr {n : Nat} {f g : Nat → Int} (h : ∀ i, i < n → f i = g i) : tab n f = tab n g :=
  List.map_congr_left fun i hi => h i (List.mem_range.mp hi)
theorem tab_ofL (xs : List Int) : tab xs.length (ofL xs) = xs := by
  refine List.ext_getElem? fun i => ?_
  unfold tab ofL
  rw [List.getElem?_map]
  by_cases h : i < xs.length
  · rw [List.getElem?_range h, List.getElem?_eq_getElem h]
    show some (xs.getD i 0) = _
    rw [List.getD_eq_getElem?_getD, List.getElem?_eq_getElem h]
    rfl
  · rw [List.getElem?_eq_none (by rw [List.length_range]; omega), List.getElem?_eq_none (by omega)]
    rfl
theorem pick_step {xs : List Int} {m p s : Nat} (hl : xs.length = m * p) (hs : s < p) (hm : 0 < m) : pickG xs (some (s : Int)) none (some (p : Int)) = tab m fun j => ofL xs (j * p + s) := by
  have hn : p ≤ m * p := Nat.le_mul_of_pos_left p hm
  have b : sliceBounds (some (s : Int)) none (some (p : Int)) xs.length = ((s : Int), ((m * p : Nat) : Int), (p : Int)) := by
    unfold sliceBounds
    have hp : ((some (p : Int)).getD 1 : Int) > 0 := by show (p : Int) > 0; omega
    simp only [hp, if_true, Option.getD_some, hl]
    have h1 : ¬ ((s : Int) < 0) := by omega
    have hp2 : (p : Int) > 0 := by omega
    simp only [h1, if_false, hp2, if_true]
    congr 1
    omega
  have c : sliceRange (s : Int) ((m * p : Nat) : Int) (p : Int) = (List.range m).map fun k => k * p + s := by
    unfold sliceRange
    have hp2 : (p : Int) > 0 := by omega
    have hlt : (s : Int) < ((m * p : Nat) : Int) := by omega
    simp only [hp2, if_true, hlt]
    have hc : ((((m * p : Nat) : Int) - s + p - 1) / p).toNat = m := by
      have e : (((m * p : Nat) : Int) - s + p - 1) = ((p - 1 - s : Nat) : Int) + (p : Int) * (m : Int) := by
        have : ((m * p : Nat) : Int) = (p : Int) * (m : Int) := by rw [Int.natCast_mul, Int.mul_comm]
        rw [this]
        omega
      rw [e, Int.add_mul_ediv_left _ _ (by omega), Int.ediv_eq_zero_of_lt (by omega) (by omega)]
      omega
    rw [hc]
    refine List.map_congr_left fun k _ => ?_
    have : (s : Int) + (p : Int) * (k : Int) = ((k * p + s : Nat) : Int) := by
      rw [Int.natCast_add, Int.natCast_mul, Int.mul_comm]
      omega
    rw [this]
    rfl
  unfold pickG
  rw [b]
  show (sliceRange (s : Int) ((m * p : Nat) : Int) (p : Int)).filterMap _ = _
  rw [c, List.filterMap_map]
  unfold tab
  have : ∀ l : List Nat, (∀ j ∈ l, j < m) → l.filterMap ((fun i => xs[i]?) ∘ fun k => k * p + s) = l.map fun j => ofL xs (j * p + s) := fun l h => by
    induction l with
    | nil => rfl
    | cons j l ih =>
      have hj := h j (List.mem_cons_self ..)
      have hi : j * p + s < xs.length := by
        rw [hl]
        have h2 : (j + 1) * p ≤ m * p := Nat.mul_le_mul_right p hj
        rw [Nat.add_mul, Nat.one_mul] at h2
        omega
      rw [List.filterMap_cons, List.map_cons, ih fun j hj => h j (List.mem_cons_of_mem _ hj)]
      have e : ((fun i => xs[i]?) ∘ fun k => k * p + s) j = some (ofL xs (j * p + s)) := by
        show xs[j * p + s]? = _
        unfold ofL
        rw [List.getD_eq_getElem?_getD, List.getElem?_eq_getElem hi]
        rfl
      rw [e]
  exact this _ fun j hj => List.mem_range.mp hj
theorem flat_tab (m : Nat) (hm : 0 < m) (g : Nat → Nat → Int) : ∀ p : Nat, (List.range p).flatMap (fun r => tab m (g r)) = tab (p * m) fun i => g (i / m) (i % m)
  | 0 => by rw [Nat.zero_mul]; rfl
  | p + 1 => by
    rw [List.range_succ, List.flatMap_append, flat_tab m hm g p, Nat.add_mul, Nat.one_mul]
    unfold tab
    rw [List.range_add, List.map_append, List.map_map]
    congr 1
    show ([p].flatMap fun r => (List.range m).map (g r)) = _
    rw [List.flatMap_singleton]
    refine List.map_congr_left fun j hj => ?_
    have hj := List.mem_range.mp hj
    show g p j = g ((p * m + j) / m) ((p * m + j) % m)
    rw [Nat.mul_comm p m, Nat.mul_add_div hm, Nat.mul_add_mod, Nat.div_eq_of_lt hj, Nat.mod_eq_of_lt hj, Nat.add_zero]
theorem Lp_succ (p m : Nat) (R : Nat → Nat → Int) (k : Nat) (x : Nat → Int) : Lp p m R (k + 1) x = Lp p m R k (Lt p m R x) := rfl
section
variable {S L R T α : Type}
theorem loop_nil (f : α → T → Fl T T R) (s : T) : (Fl.loop f [] s : Fl T L R) = .nx s := rfl
theorem loop_cons {f : α → T → Fl T T R} {x : α} {s s' : T} (h : f x s = .nx s') (xs : List α) : (Fl.loop f (x :: xs) s : Fl T L R) = Fl.loop f xs s' := by
  have e := loop_takeN (L := L) (f := f) (xs := x :: xs) (i := 0) (x := x) (s := s) rfl
  rw [List.drop_zero, h] at e
  exact e
end
end Dn

set_option Elab.async false
set_option linter.all false
set_option maxRecDepth 100000
namespace Dn
open PySem PySem.Spec L2
theorem S_addn (f : Nat → Int) (a : Nat) : ∀ b : Nat, S (a + b) f = S a f + S b (fun t => f (a + t))
  | 0 => by
    show S a f = S a f + 0
    rw [Int.add_zero]
  | b + 1 => by
    show S (a + b) f + f (a + b) = S a f + (S b (fun t => f (a + t)) + f (a + b))
    rw [S_addn f a b, Int.add_assoc]
theorem S_split (p : Nat) (f : Nat → Int) : ∀ m : Nat, S (m * p) f = S m (fun a => S p fun t => f (a * p + t))
  | 0 => by rw [Nat.zero_mul]; rfl
  | m + 1 => by
    rw [Nat.add_mul, Nat.one_mul, S_addn, S_split p f m]
    rfl
def Ww (p : Nat) (R : Nat → Nat → Int) : Nat → Nat → Nat → Int
  | 0, _, _ => 1
  | k + 1, h, s => Ww p R k (h / p) (s / p) * R (h % p) (s % p)
theorem dm {p a t : Nat} (hp : 0 < p) (ht : t < p) : (a * p + t) / p = a ∧ (a * p + t) % p = t := by
  rw [Nat.mul_comm a p]
  exact ⟨by rw [Nat.mul_add_div hp, Nat.div_eq_of_lt ht, Nat.add_zero], by rw [Nat.mul_add_mod, Nat.mod_eq_of_lt ht]⟩
theorem lt_mul {a b c d : Nat} (h : a < c) (g : b < d) : a * d + b < c * d := by
  have : (a + 1) * d ≤ c * d := Nat.mul_le_mul_right d h
  rw [Nat.add_mul, Nat.one_mul] at this
  omega
theorem Lp_full {p n : Nat} (hp : 0 < p) (R : Nat → Nat → Int) : ∀ (k : Nat), k ≤ n → ∀ (x : Nat → Int) (h lo : Nat), h < p ^ k → lo < p ^ (n - k) → Lp p (p ^ (n - 1)) R k x (h * p ^ (n - k) + lo) = S (p ^ k) fun s => Ww p R k h s * x (lo * p ^ k + s)
  | 0, _, x, h, lo, h0, _ => by
    have e : h = 0 := by rw [Nat.pow_zero] at h0; omega
    subst e
    show x _ = S (p ^ 0) fun s => 1 * x (lo * p ^ 0 + s)
    rw [Nat.pow_zero, Nat.zero_mul, Nat.zero_add, Nat.mul_one]
    show x lo = 0 + 1 * x (lo + 0)
    rw [Int.zero_add, Int.one_mul, Nat.add_zero]
  | k + 1, hk, x, h, lo, h0, hlo => by
    have e1 : p ^ (n - k) = p * p ^ (n - (k + 1)) := by
      rw [← Nat.pow_succ']
      congr 1
      omega
    have e2 : p ^ (n - (k + 1)) * p ^ k = p ^ (n - 1) := by
      rw [← Nat.pow_add]
      congr 1
      omega
    have hr : h % p < p := Nat.mod_lt _ hp
    have h1 : h / p < p ^ k := Nat.div_lt_of_lt_mul (by rw [← Nat.pow_succ']; exact h0)
    have hh : h / p * p + h % p = h := Nat.div_add_mod' h p
    have i1 : h * p ^ (n - (k + 1)) + lo = h / p * p ^ (n - k) + (h % p * p ^ (n - (k + 1)) + lo) := by
      rw [e1, ← Nat.mul_assoc, ← Nat.add_assoc, ← Nat.add_mul, hh]
    have l1 : h % p * p ^ (n - (k + 1)) + lo < p ^ (n - k) := by
      rw [e1]
      exact lt_mul hr hlo
    rw [i1, Lp_succ, Lp_full hp R k (by omega) (Lt p (p ^ (n - 1)) R x) (h / p) _ h1 l1, Nat.pow_succ, S_split]
    refine S_congr fun s' hs' => ?_
    have j1 : (h % p * p ^ (n - (k + 1)) + lo) * p ^ k + s' = h % p * p ^ (n - 1) + (lo * p ^ k + s') := by
      rw [Nat.add_mul, Nat.mul_assoc, e2, Nat.add_assoc]
    have j2 : lo * p ^ k + s' < p ^ (n - 1) := by
      rw [← e2]
      exact lt_mul hlo hs'
    have pm : 0 < p ^ (n - 1) := Nat.pow_pos hp
    obtain ⟨d1, d2⟩ := dm (a := h % p) pm j2
    unfold Lt
    rw [j1, d1, d2, ← S_mul]
    refine S_congr fun t ht => ?_
    obtain ⟨d3, d4⟩ := dm (a := s') hp ht
    show Ww p R k (h / p) s' * (R (h % p) t * x ((lo * p ^ k + s') * p + t)) = Ww p R k (h / p) ((s' * p + t) / p) * R (h % p) ((s' * p + t) % p) * x (lo * (p ^ k * p) + (s' * p + t))
    rw [d3, d4, Int.mul_assoc]
    congr 3
    rw [Nat.add_mul, Nat.mul_assoc, Nat.add_assoc]
theorem Lp_all {p n : Nat} (hp : 0 < p) (R : Nat → Nat → Int) (x : Nat → Int) {i : Nat} (hi : i < p ^ n) : Lp p (p ^ (n - 1)) R n x i = S (p ^ n) fun s => Ww p R n i s * x s := by
  have := Lp_full hp R n (Nat.le_refl _) x i 0 hi (by rw [Nat.sub_self, Nat.pow_zero]; exact Nat.one_pos)
  rw [Nat.sub_self, Nat.pow_zero, Nat.mul_one, Nat.add_zero] at this
  rw [this]
  exact S_congr fun s _ => by rw [Nat.zero_mul, Nat.zero_add]
theorem W_inv {p : Nat} (hp : 0 < p) {A B : Nat → Nat → Int} {q : Int} (h1 : ∀ a, a < p → ∀ b, b < p → S p (fun r => B a r * A r b) % q = (if a = b then 1 else 0) % q) : ∀ (n i t : Nat), i < p ^ n → t < p ^ n → S (p ^ n) (fun s => Ww p B n i s * Ww p A n s t) % q = (if i = t then 1 else 0) % q
  | 0, i, t, hi, ht => by
    rw [Nat.pow_zero] at hi ht
    have e : i = t := by omega
    rw [if_pos e, Nat.pow_zero]
    rfl
  | n + 1, i, t, hi, ht => by
    have i1 : i / p < p ^ n := Nat.div_lt_of_lt_mul (by rw [← Nat.pow_succ']; exact hi)
    have t1 : t / p < p ^ n := Nat.div_lt_of_lt_mul (by rw [← Nat.pow_succ']; exact ht)
    have ih := W_inv hp h1 n (i / p) (t / p) i1 t1
    have ir : i % p < p := Nat.mod_lt _ hp
    have tr : t % p < p := Nat.mod_lt _ hp
    have o := h1 (i % p) ir (t % p) tr
    have e : S (p ^ (n + 1)) (fun s => Ww p B (n + 1) i s * Ww p A (n + 1) s t) = S (p ^ n) (fun s => Ww p B n (i / p) s * Ww p A n s (t / p)) * S p (fun r => B (i % p) r * A r (t % p)) := by
      rw [Nat.pow_succ, S_split, Int.mul_comm, ← S_mul]
      refine S_congr fun s hs => ?_
      rw [Int.mul_comm, ← S_mul]
      refine S_congr fun r hr => ?_
      obtain ⟨d1, d2⟩ := dm (a := s) hp hr
      show Ww p B n (i / p) ((s * p + r) / p) * B (i % p) ((s * p + r) % p) * (Ww p A n ((s * p + r) / p) (t / p) * A ((s * p + r) % p) (t % p)) = _
      rw [d1, d2, Int.mul_assoc, Int.mul_assoc]
      congr 1
      rw [← Int.mul_assoc, ← Int.mul_assoc, Int.mul_comm (B (i % p) r)]
    rw [e, Int.mul_emod, ih, o, ← Int.mul_emod]
    by_cases z : i = t
    · rw [if_pos z, if_pos (by rw [z]), if_pos (by rw [z])]
      rfl
    · rw [if_neg z]
      by_cases y : i / p = t / p
      · rw [if_neg (c := i % p = t % p) (fun w => z (by rw [← Nat.div_add_mod' i p, ← Nat.div_add_mod' t p, y, w])), Int.mul_zero]
      · rw [if_neg y, Int.zero_mul]
end Dn
namespace Dn
theorem Ww_congr {p : Nat} (hp : 0 < p) {A B : Nat → Nat → Int} (h : ∀ r, r < p → ∀ s, s < p → A r s = B r s) : ∀ (k i s : Nat), Ww p A k i s = Ww p B k i s
  | 0, _, _ => rfl
  | k + 1, i, s => by
    show Ww p A k (i / p) (s / p) * A (i % p) (s % p) = Ww p B k (i / p) (s / p) * B (i % p) (s % p)
    rw [Ww_congr hp h k, h _ (Nat.mod_lt _ hp) _ (Nat.mod_lt _ hp)]
theorem W_back {p n : Nat} (hp : 0 < p) {A B : Nat → Nat → Int} {q : Int} (h1 : ∀ a, a < p → ∀ b, b < p → S p (fun r => B a r * A r b) % q = (if a = b then 1 else 0) % q) (x y : Nat → Int) (hy : ∀ s, s < p ^ n → y s % q = S (p ^ n) (fun t => Ww p A n s t * x t) % q) {i : Nat} (hi : i < p ^ n) : S (p ^ n) (fun s => Ww p B n i s * y s) % q = x i % q := by
  have e : S (p ^ n) (fun s => Ww p B n i s * y s) % q = S (p ^ n) (fun s => Ww p B n i s * S (p ^ n) (fun t => Ww p A n s t * x t)) % q := S_mod q fun s hs => by
    rw [Int.mul_emod, hy s hs, ← Int.mul_emod]
  rw [e, S_congr (g := fun s => S (p ^ n) (fun t => Ww p B n i s * (Ww p A n s t * x t))) (fun s _ => (S_mul _ _ _).symm), S_swap]
  have d : S (p ^ n) (fun t => S (p ^ n) (fun s => Ww p B n i s * (Ww p A n s t * x t))) % q = S (p ^ n) (fun t => x t * (if t = i then 1 else 0)) % q := S_mod q fun t ht => by
    have z : S (p ^ n) (fun s => Ww p B n i s * (Ww p A n s t * x t)) = x t * S (p ^ n) (fun s => Ww p B n i s * Ww p A n s t) := by
      rw [← S_mul]
      exact S_congr fun s _ => by rw [← Int.mul_assoc, Int.mul_comm]
    rw [z, Int.mul_emod, W_inv hp h1 n i t hi ht, ← Int.mul_emod]
    by_cases w : i = t
    · rw [if_pos w, if_pos w.symm]
    · rw [if_neg w, if_neg fun v => w v.symm]
  rw [d, S_one, if_pos hi]
def powT (p r e : Nat) : Int := ((r ^ e % p : Nat) : Int)
end Dn

set_option Elab.async false
set_option linter.all false
set_option maxRecDepth 100000
namespace Dn
open PySem PySem.Spec L2
theorem sum_add {α : Type} (f g : α → Int) : ∀ T : List α, (T.map fun k => f k + g k).sum = (T.map f).sum + (T.map g).sum
  | [] => rfl
  | k :: T => by
    rw [List.map_cons, List.map_cons, List.map_cons, List.sum_cons, List.sum_cons, List.sum_cons, sum_add f g T]
    omega
theorem sum_zero {α : Type} {f : α → Int} : ∀ {T : List α}, (∀ k ∈ T, f k = 0) → (T.map f).sum = 0
  | [], _ => rfl
  | k :: T, h => by
    rw [List.map_cons, List.sum_cons, h k (List.mem_cons_self ..), sum_zero fun j hj => h j (List.mem_cons_of_mem _ hj)]
    rfl
theorem sum_one {α : Type} [DecidableEq α] (c : Int) (a : α) : ∀ {T : List α}, T.Nodup → a ∈ T → (T.map fun k => if k = a then c else 0).sum = c
  | [], _, h => nomatch h
  | k :: T, n, h => by
    rw [List.nodup_cons] at n
    rw [List.map_cons, List.sum_cons]
    by_cases z : k = a
    · rw [if_pos z, sum_zero fun j hj => if_neg fun e => n.1 (by rw [z, ← e]; exact hj), Int.add_zero]
    · rw [if_neg z, sum_one c a n.2 (by
        cases h with
        | head => exact absurd rfl z
        | tail _ h => exact h), Int.zero_add]
theorem S_range (h : Nat → Int) : ∀ n : Nat, S n h = ((List.range n).map h).sum
  | 0 => rfl
  | n + 1 => by
    rw [List.range_succ, List.map_append, List.sum_append, ← S_range h n]
    show S n h + h n = S n h + (h n + 0)
    rw [Int.add_zero]
def zt : Tup Int := ⟨[]⟩
theorem T_range (T : List (Tup Int)) : (List.range T.length).map (fun b => T.getD b zt) = T := by
  refine List.ext_getElem? fun i => ?_
  rw [List.getElem?_map]
  by_cases h : i < T.length
  · rw [List.getElem?_range h, List.getElem?_eq_getElem h, Option.map_some, List.getD_eq_getElem?_getD, List.getElem?_eq_getElem h]
    rfl
  · rw [List.getElem?_eq_none (by rw [List.length_range]; omega), List.getElem?_eq_none (by omega)]
    rfl
theorem S_list (g : Tup Int → Int) (T : List (Tup Int)) : S T.length (fun b => g (T.getD b zt)) = (T.map g).sum := by
  rw [S_range]
  have : (List.range T.length).map (fun b => g (T.getD b zt)) = ((List.range T.length).map fun b => T.getD b zt).map g := by rw [List.map_map]; rfl
  rw [this, T_range]
theorem tab_list (g : Tup Int → Int) (T : List (Tup Int)) : tab T.length (fun b => g (T.getD b zt)) = T.map g := by
  unfold tab
  have : (List.range T.length).map (fun b => g (T.getD b zt)) = ((List.range T.length).map fun b => T.getD b zt).map g := by rw [List.map_map]; rfl
  rw [this, T_range]
theorem ofL_map (g : Tup Int → Int) (T : List (Tup Int)) {b : Nat} (h : b < T.length) : ofL (T.map g) b = g (T.getD b zt) := by
  unfold ofL
  rw [List.getD_eq_getElem?_getD, List.getD_eq_getElem?_getD, List.getElem?_map, List.getElem?_eq_getElem h]
  rfl
theorem getD_mem {T : List (Tup Int)} {b : Nat} (h : b < T.length) : T.getD b zt ∈ T := by
  rw [List.getD_eq_getElem?_getD, List.getElem?_eq_getElem h]
  exact List.getElem_mem h
def Nu (t : Po) (k : Tup Int) : Int := (⟨t.l⟩ : Dct Int).val k
theorem val_cons (q : Tup Int × Int) (l : List (Tup Int × Int)) (n : q.1 ∉ l.map (·.1)) (k : Tup Int) : (⟨q :: l⟩ : Dct Int).val k = (if k = q.1 then q.2 else 0) + (⟨l⟩ : Dct Int).val k := by
  unfold Dct.val
  by_cases z : k = q.1
  · have a : (⟨q :: l⟩ : Dct Int).get k = some q.2 := by
      unfold Dct.get
      rw [List.find?_cons, decide_eq_true z.symm]
      rfl
    have b : (⟨l⟩ : Dct Int).get k = none := Dct.get_none (by rw [z]; exact n)
    rw [a, b, if_pos z]
    show q.2 = q.2 + 0
    rw [Int.add_zero]
  · have a : (⟨q :: l⟩ : Dct Int).get k = (⟨l⟩ : Dct Int).get k := by
      unfold Dct.get
      rw [List.find?_cons, decide_eq_false (fun e => z e.symm)]
    rw [a, if_neg z, Int.zero_add]
theorem sum_val (T : List (Tup Int)) (hT : T.Nodup) (f : Tup Int → Int) : ∀ l : List (Tup Int × Int), (l.map (·.1)).Nodup → (∀ q ∈ l, q.1 ∈ T) → (T.map fun k => (⟨l⟩ : Dct Int).val k * f k).sum = (l.map fun q => q.2 * f q.1).sum
  | [], _, _ => sum_zero fun k _ => by
    show (0 : Int) * f k = 0
    rw [Int.zero_mul]
  | q :: l, n, h => by
    rw [List.map_cons, List.nodup_cons] at n
    rw [List.map_cons, List.sum_cons, ← sum_val T hT f l n.2 fun r hr => h r (List.mem_cons_of_mem _ hr), ← sum_one (q.2 * f q.1) q.1 hT (h q (List.mem_cons_self ..)), ← sum_add]
    congr 1
    refine List.map_congr_left fun k _ => ?_
    rw [val_cons q l n.1, Int.add_mul]
    by_cases z : k = q.1
    · rw [if_pos z, if_pos z, z]
    · rw [if_neg z, if_neg z, Int.zero_mul]
theorem val_ne {l : List (Tup Int × Int)} {k : Tup Int} (h : (⟨l⟩ : Dct Int).val k ≠ 0) : (k, (⟨l⟩ : Dct Int).val k) ∈ l := by
  by_cases z : k ∈ (⟨l⟩ : Dct Int).keys
  · have e := Dct.get_val z
    unfold Dct.get at e
    show (k, (⟨l⟩ : Dct Int).val k) ∈ l
    cases y : l.find? (fun p => decide (p.1 = k)) with
    | none => rw [y] at e; cases e
    | some p =>
      rw [y] at e
      have a := List.mem_of_find?_eq_some y
      have b : p.1 = k := of_decide_eq_true (List.find?_some (p := fun p : Tup Int × Int => decide (p.1 = k)) y)
      have c : p.2 = (⟨l⟩ : Dct Int).val k := Option.some.inj e
      rw [← c, ← b]
      exact a
  · refine absurd ?_ h
    unfold Dct.val
    rw [Dct.get_none z]
    rfl
theorem val_mem {l : List (Tup Int × Int)} (n : (l.map (·.1)).Nodup) {q : Tup Int × Int} (h : q ∈ l) : (⟨l⟩ : Dct Int).val q.1 = q.2 := by
  unfold Dct.val
  rw [Dct.get_of n (k := q.1) (v := q.2) h]
  rfl
def mkP (T : List (Tup Int)) (f : Tup Int → Int) : Po := ⟨((T.map fun k => (k, f k)).filter fun q => !decide (q.2 = 0)).reverse⟩
theorem mkP_mem {T : List (Tup Int)} {f : Tup Int → Int} {q : Tup Int × Int} : q ∈ (mkP T f).l ↔ q.1 ∈ T ∧ q.2 = f q.1 ∧ q.2 ≠ 0 := by
  unfold mkP
  show q ∈ (List.filter _ _).reverse ↔ _
  rw [List.mem_reverse, List.mem_filter, List.mem_map]
  constructor
  · rintro ⟨⟨k, hk, rfl⟩, h⟩
    exact ⟨hk, rfl, fun e => by rw [decide_eq_true e] at h; cases h⟩
  · rintro ⟨a, b, c⟩
    exact ⟨⟨q.1, a, by rw [← b]⟩, by rw [decide_eq_false c]; rfl⟩
theorem mkP_len (T : List (Tup Int)) (f : Tup Int → Int) : (mkP T f).l.length ≤ T.length := by
  unfold mkP
  show (List.reverse _).length ≤ _
  rw [List.length_reverse]
  have := List.length_filter_le (fun q : Tup Int × Int => !decide (q.2 = 0)) (T.map fun k => (k, f k))
  rw [List.length_map] at this
  exact this
theorem mkP_fall {T : List (Tup Int)} (h : T.Pairwise fun a b => a.l < b.l) (f : Tup Int → Int) : ((mkP T f).l.map (·.1)).Pairwise fun a b => b.l < a.l := by
  unfold mkP
  show ((List.reverse _).map _).Pairwise _
  rw [List.map_reverse, List.pairwise_reverse]
  refine List.Pairwise.sublist (List.Sublist.map _ List.filter_sublist) ?_
  rw [List.map_map]
  have e : T.map ((·.1) ∘ fun k => (k, f k)) = T := List.map_id _
  rw [e]
  exact h
theorem mkP_val {T : List (Tup Int)} (h : T.Pairwise fun a b => a.l < b.l) (f : Tup Int → Int) {k : Tup Int} (hk : k ∈ T) : Nu (mkP T f) k = f k := by
  unfold Nu
  by_cases z : f k = 0
  · refine Decidable.byContradiction fun e => ?_
    have nz : (⟨(mkP T f).l⟩ : Dct Int).val k ≠ 0 := fun y => e (by rw [y, z])
    have := mkP_mem.mp (val_ne nz)
    exact this.2.2 (this.2.1.trans z)
  · exact val_mem (nodup_of_lt (mkP_fall h f)) (q := (k, f k)) (mkP_mem.mpr ⟨hk, rfl, z⟩)
theorem fall_eq {l m : List (Tup Int × Int)} (h : (l.map (·.1)).Pairwise fun a b => b.l < a.l) (g : (m.map (·.1)).Pairwise fun a b => b.l < a.l) (e : ∀ q, q ∈ l ↔ q ∈ m) : l = m := by
  have nd : ∀ {l : List (Tup Int × Int)}, (l.map (·.1)).Pairwise (fun a b => b.l < a.l) → l.Nodup := fun {l} h => by
    have := List.pairwise_map.mp h
    exact List.Pairwise.imp (fun {a b} (q : b.1.l < a.1.l) e => by rw [e] at q; exact List.lt_irrefl _ q) this
  exact List.Perm.eq_of_pairwise (le := fun a b : Tup Int × Int => b.1.l < a.1.l) (fun a b _ _ h g => absurd (List.lt_trans h g) (List.lt_irrefl _)) (List.pairwise_map.mp h) (List.pairwise_map.mp g) ((List.perm_ext_iff_of_nodup (nd h) (nd g)).mpr e)
structure PolT (T : List (Tup Int)) (p : Int) (t : Po) : Prop where
  mem : ∀ q ∈ t.l, q.1 ∈ T ∧ 0 < q.2 ∧ q.2 < p
  fall : (t.l.map (·.1)).Pairwise fun a b => b.l < a.l
theorem PolT.nd {T : List (Tup Int)} {p : Int} {t : Po} (h : PolT T p t) : (t.l.map (·.1)).Nodup := nodup_of_lt h.fall
theorem mkP_pol {T : List (Tup Int)} (hT : T.Pairwise fun a b => a.l < b.l) {p : Int} {f : Tup Int → Int} (h : ∀ k ∈ T, 0 ≤ f k ∧ f k < p) : PolT T p (mkP T f) :=
  ⟨fun q hq => by
    obtain ⟨a, b, c⟩ := mkP_mem.mp hq
    have := h q.1 a
    exact ⟨a, by omega, by omega⟩, mkP_fall hT f⟩
theorem PolT.back {T : List (Tup Int)} (hT : T.Pairwise fun a b => a.l < b.l) {p : Int} {t : Po} (h : PolT T p t) : mkP T (Nu t) = t := by
  have : (mkP T (Nu t)).l = t.l := fall_eq (mkP_fall hT _) h.fall fun q => by
    rw [mkP_mem]
    constructor
    · rintro ⟨a, b, c⟩
      have := val_ne (l := t.l) (k := q.1) (by rw [show (⟨t.l⟩ : Dct Int).val q.1 = q.2 from b.symm]; exact c)
      rw [show (⟨t.l⟩ : Dct Int).val q.1 = q.2 from b.symm] at this
      exact this
    · intro hq
      have := h.mem q hq
      exact ⟨this.1, (val_mem h.nd hq).symm, by omega⟩
  obtain ⟨l⟩ := t
  exact congrArg Tup.mk this
theorem PolT.len {T : List (Tup Int)} (hT : T.Pairwise fun a b => a.l < b.l) {p : Int} {t : Po} (h : PolT T p t) : t.l.length ≤ T.length := by
  have := mkP_len T (Nu t)
  rw [h.back hT] at this
  exact this
theorem list_fun {T : List (Tup Int)} (hT : T.Nodup) {ns : List Int} (hl : ns.length = T.length) : ∃ f : Tup Int → Int, T.map f = ns := by
  refine ⟨fun k => (⟨T.zip ns⟩ : Dct Int).val k, ?_⟩
  have hk : (T.zip ns).map (·.1) = T := by
    rw [List.map_fst_zip (by omega)]
  refine List.ext_getElem (by rw [List.length_map]; omega) fun i h1 h2 => ?_
  rw [List.getElem_map]
  have h3 : i < (T.zip ns).length := by rw [List.length_zip]; rw [List.length_map] at h1; omega
  have m : (T[i]'(by rw [List.length_map] at h1; exact h1), ns[i]) ∈ T.zip ns := by
    have := List.getElem_mem h3
    rw [List.getElem_zip] at this
    exact this
  exact val_mem (by rw [hk]; exact hT) m
def EV (p : Int) (pw : Tup Int → Tup Int → Int) (t : Po) (b : Tup Int) : Int := (t.l.map fun q => q.2 * pw q.1 b).sum % p
theorem EV_T {T : List (Tup Int)} (hT : T.Nodup) {p : Int} {t : Po} (h : PolT T p t) (pw : Tup Int → Tup Int → Int) (b : Tup Int) : EV p pw t b = (T.map fun k => Nu t k * pw k b).sum % p := by
  unfold EV
  rw [← sum_val T hT (fun k => pw k b) t.l h.nd fun q hq => (h.mem q hq).1]
  rfl
end Dn

set_option Elab.async false
set_option linter.all false
set_option maxRecDepth 100000
namespace Dn
open PySem PySem.Spec L2
def acc (T : List (Tup Int)) (p : Int) (xs : List (Tup Int × Int)) : Po := mkP T fun k => sumK k xs % p
end Dn

set_option Elab.async false
set_option linter.all false
set_option maxRecDepth 100000
namespace Dn
open PySem PySem.Spec L2
open Rep (rep)
open ORep (orep)
section
variable {c : Ct} {env : List Slot} {e a b d : Expr} {α β γ : Type} [Rep α] [Rep β] [Rep γ]
theorem fits_units65 {X : Cx} (F : Fits c X) : X.A.units + 65 < cLine := by have := F.room.un; omega
def ninD {α : Type} [Dat α] (x : α) (ys : List α) : Option Bool := letI := Dat.dec (α := α); if (lay x && lay ys && decide (Dat.dep α ≤ 63)) = true then some (!decide (x ∈ ys)) else none
theorem any_mem {α : Type} [Dat α] (x : α) : ∀ ys : List α, ((ys.map Dat.toD).any fun z => PyData.eqv z (Dat.toD x)) = (letI := Dat.dec (α := α); decide (x ∈ ys))
  | [] => by simp
  | y :: ys => by
    letI := Dat.dec (α := α)
    rw [List.map_cons, List.any_cons, any_mem x ys, Dat.eqv]
    by_cases h : y = x
    · rw [decide_eq_true h, Bool.true_or]
      exact (decide_eq_true (by rw [h]; exact List.mem_cons_self ..)).symm
    · rw [decide_eq_false h, Bool.false_or]
      refine decide_eq_decide.mpr ?_
      rw [List.mem_cons]
      exact ⟨Or.inr, fun g => g.resolve_left fun e => h e.symm⟩
theorem dep_list {α : Type} [Dat α] (ys : List α) (h : Dat.dep α ≤ 63) : (PyData.list (ys.map Dat.toD)).depth ≤ 64 := by
  rw [PyData.depth]
  have : ∀ ys : List α, PyData.depthAll (ys.map Dat.toD) ≤ Dat.dep α := fun ys => by
    induction ys with
    | nil => rw [List.map_nil, PyData.depthAll]; exact Nat.zero_le _
    | cons y ys ih =>
      rw [List.map_cons, PyData.depthAll]
      exact Nat.max_le.mpr ⟨Dat.hdep y, ih⟩
  have := this ys
  omega
theorem inD_shape {α : Type} [Dat α] {x : α} {ys : List α} (h : (lay x && lay ys && decide (Dat.dep α ≤ 63)) = true) : SeqAt.shaped (Dat.toD x) = true ∧ SeqAt.shaped (.list (ys.map Dat.toD)) = true := by
  simp only [Bool.and_eq_true, decide_eq_true_eq] at h
  refine ⟨lay_sh h.1.1 (by omega), ?_⟩
  unfold SeqAt.shaped
  rw [Bool.and_eq_true]
  exact ⟨h.1.2, decide_eq_true (dep_list ys h.2)⟩
theorem cmp_ninD {α : Type} [Dat α] : Cmp c .NotIn (fun (x : α) (y : List α) => ninD x y) := ⟨rNotInD c.K, fun X F => by rw [← F.K]; exact op_notInD (fits_units65 F), fun x y z hz B H v u hB r1 r2 Q q => by
  replace hz : ninD x y = some z := hz
  unfold ninD at hz
  split at hz
  · rename_i h
    cases hz
    obtain ⟨s1, s2⟩ := inD_shape h
    refine ⟨_, _, Dat.dp (Rep.mono hB r1), Dat.dp (Rep.mono hB r2), s1, s2, ?_⟩
    rw [any_mem]
    exact q _ B H (Grow.refl hB) rfl
  · cases hz⟩
theorem de_min2 {p pos : Pos} {m n : Option Int} (hm : c.mg "min" = none) (ha : De c env a m) (hb : De c env b n) (hg : Gv c "min" := by rfl) (hs : ∀ env, starEach [a, b] env = (false, eval a env) :: starEach [b] env := by intro _; rfl) (hs2 : ∀ env, starEach [b] env = (false, eval b env) :: starEach [] env := by intro _; rfl) :
    De c env (.Call (.Name "min" p) [a, b] [] pos) (m.bind fun x => n.bind fun y => some (if y < x then y else x)) := by
  obtain ⟨t, h1, h2⟩ := ha
  obtain ⟨u, g1, g2⟩ := hb
  refine ⟨tCB (fun xs H Q => ∃ i j, xs = [V.int i, .int j] ∧ Q (.int (if j < i then j else i)) H) (tCons t (tCons u tNil)), fun X F => pe_callB (call_min2 F.calm) (fits_gl F hg) (by rw [F.mg]; exact hm) (by decide +kernel) (pa_cons (h1 X F) (pa_cons (g1 X F) pa_nil (hs2 _)) (hs _)) (by decide) (by decide) (hs _) (by rw [hs2]; rfl), fun z hz B H σ E Q q => ?_⟩
  obtain ⟨x, ex, hz⟩ := bind_some hz
  obtain ⟨y, ey, hz⟩ := bind_some hz
  cases hz
  refine h2 x ex B H σ E _ fun v B1 H1 k1 r1 => g2 y ey B1 H1 σ (E.grow k1) _ fun v2 B2 H2 k2 r2 => ?_
  cases r1; cases r2
  exact ⟨x, y, rfl, q _ B2 H2 (k1.trans k2) rfl⟩
variable {kx vx iter tg : Expr}
end
end Dn

set_option Elab.async false
set_option linter.all false
set_option maxRecDepth 100000
namespace PySem
open Sem (wp)
open AutoSeq1 (wpAny_loadPart')
end PySem
namespace L2
open PySem PySem.Spec PyProof.Rows
theorem ne_of_cls {h : Heap} {a b : Addr} {o p : Obj} (ha : h.get? a = some o) (hb : h.get? b = some p) (hc : o.cls ≠ p.cls) : a ≠ b := fun e => by
  rw [e, hb] at ha
  exact hc (by rw [Option.some.inj ha])
end L2
namespace Dn
open PySem PySem.Spec L2
open Rep (rep)
end Dn

set_option Elab.async false
set_option linter.all false
set_option maxRecDepth 100000
namespace Dn
open PySem PySem.Spec L2
theorem ninD_pts (x : Tup Int) (ys : List (Tup Int)) : ninD x ys = some (!decide (x ∈ ys)) := by
  unfold ninD
  rw [lay_tup lay_int, lay_list (lay_tup lay_int)]
  rfl
theorem PolT.filter {T : List (Tup Int)} {p : Int} {t : Po} (h : PolT T p t) (V : Tup Int × Int → Bool) : PolT T p ⟨t.l.filter V⟩ :=
  ⟨fun q hq => h.mem q (List.mem_filter.mp hq).1, List.Pairwise.sublist (List.Sublist.map _ List.filter_sublist) h.fall⟩
end Dn

set_option Elab.async false
set_option linter.all false
set_option maxRecDepth 100000
namespace Dn
open PySem PySem.Spec L2
open Rep (rep)
section
variable {c : Ct} {env : List Slot} {a e : Expr}
def strI (i : Int) : Option Str := if decide (i.natAbs.log2 < 1920) = true then some (toString i : String) else none
theorem de_strI {p pos : Pos} {m : Option Int} (hm : c.mg "str" = none) (h : De c env a m) (hg : Gv c "str" := by rfl) (hs : ∀ env, starEach [a] env = (false, eval a env) :: starEach [] env := by intro _; rfl) :
    De c env (.Call (.Name "str" p) [a] [] pos) (m.bind strI) :=
  de_ty1 (fun X F => call_str_int)
    (fun y z hz B H v hB r Q q => by
      cases r
      unfold strI at hz
      split at hz
      · rename_i hd
        cases hz
        exact ⟨y, rfl, of_decide_eq_true hd, q _ B H (Grow.refl hB) rfl⟩
      · cases hz) hg hm (by decide +kernel) h (by decide) (by decide) hs
end
end Dn

set_option Elab.async false
set_option linter.all false
set_option maxRecDepth 100000
namespace L2
open PySem PySem.Spec PyProof.Rows
section
variable {P : Program} {w : World} {A : Around} {E : Value → Shared → Prop} {s : Shared} {a : Addr} {L : List (Addr × List Int)} {es : Array (Int × Value)} {ep : Nat} {t : SetTable}
end
section
variable {X : Cx}
end
end L2

set_option Elab.async false
set_option linter.all false
set_option maxRecDepth 100000
namespace Dn
open PySem PySem.Spec L2
open Rep (rep)
open ORep (orep)
section
variable {c : Ct} {env : List Slot} {e elt iter tg : Expr} {α β : Type} [Rep α] [Rep β]
end
end Dn

set_option Elab.async false
set_option linter.all false
set_option maxRecDepth 100000
namespace Dn
open PySem PySem.Spec L2
open Rep (rep)
open ORep (orep)
section
variable {c : Ct} {env : List Slot} {a e o : Expr} {α : Type} [Rep α]
end
section
variable {S L R : Type} [Rep R] {c : Ct} {env : List Slot} {rest : List Stmt} {e i : Expr} {mk : S → List Slot} {lk : L → List Slot} {α : Type} [Rep α]
end
section
variable {c : Ct} {env : List Slot} {α β R : Type} [Rep α] [Rep β] [ORep R]
theorem dn_call2 {f : α × β × Unit → Option R} {x : Str} {p pos : Pos} {e1 e2 : Expr} {m1 : Option α} {m2 : Option β} (D : DfN c x f) (h1 : De c env e1 m1) (h2 : De c env e2 m2) (hg : Gv c x := by rfl) (hdb : (x == ("__debug__" : Str)) = false := by decide)
    (he : ∀ env, starEach [e1, e2] env = (false, eval e1 env) :: starEach [e2] env := by intro _; rfl) (he2 : ∀ env, starEach [e2] env = (false, eval e2 env) :: starEach [] env := by intro _; rfl) :
    DeN c env (.Call (.Name x p) [e1, e2] [] pos) (m1.bind fun a1 => m2.bind fun a2 => f (a1, a2, ())) :=
  Eq.subst bind2 (motive := fun m => DeN c env (.Call (.Name x p) [e1, e2] [] pos) m) (dn_call D (dp_cons h1 (dp_cons h2 dp_nil he2) he) hg hdb he (fun _ => by rw [he2]; rfl))
end
end Dn

set_option Elab.async false
set_option linter.all false
set_option maxRecDepth 100000
namespace Dn
open PySem PySem.Spec L2
open Rep (rep)
open ORep (orep)
def thaw (B : Hp) (a : Addr) : Hp := fun u => if u = a then none else B u
class Thaw (α : Type) [Rep α] : Prop where
  thaw : ∀ {K : PySem.W.Frag} {B : Hp} {a : Addr} {ls : List V} {v : V} {x : α}, B a = some (.lst ls) → rep K B v x → rep K (thaw B a) v x
instance : Thaw Int := ⟨fun _ h => h⟩
instance : Thaw Bool := ⟨fun _ h => h⟩
instance : Thaw Str := ⟨fun _ h => h⟩
theorem SqT_thaw {K : PySem.W.Frag} {B : Hp} {a b : Addr} {ls ws : List V} (h : B a = some (.lst ls)) (s : SqT K B b ws) : SqT K (thaw B a) b ws := by
  have key : ∀ {o : HO}, B b = some o → o ≠ .lst ls → thaw B a b = some o := fun {o} e n => by
    have z : b ≠ a := fun k => by
      rw [k, h] at e
      exact n (Option.some.inj e).symm
    show (if b = a then none else B b) = some o
    rw [if_neg z]
    exact e
  rcases s with (s | ⟨o, s⟩) | s
  · exact .inl (.inl (key s (fun e => nomatch e)))
  · exact .inl (.inr ⟨o, key s (fun e => nomatch e)⟩)
  · exact .inr s
theorem reps_thaw {α : Type} [Rep α] [Thaw α] {K : PySem.W.Frag} {B : Hp} {a : Addr} {ls : List V} (h : B a = some (.lst ls)) {vs : List V} {xs : List α} (r : Reps K B vs xs) : Reps K (thaw B a) vs xs := by
  induction r with
  | nil => exact .nil
  | cons p _ ih => exact .cons (Thaw.thaw h p) ih
instance {α : Type} [Rep α] [Thaw α] : Thaw (Tup α) := ⟨fun h r => by
  obtain ⟨b, vs, rfl, s, r⟩ := r
  exact ⟨b, vs, rfl, SqT_thaw h s, reps_thaw h r⟩⟩
section
variable {c : Ct} {env : List Slot} {e : Expr} {α β : Type} [Rep α] [Rep β]
end
def spIO (K : PySem.W.Frag) (C : Addr) {α β R : Type} [Rep α] [Rep β] (fl : R → List (Str × Slot)) (f : α → List β → Option R) : Sp := fun vs H Q _ => ∃ (p : α) (names : List β) (B : Hp) (x dx g : Addr) (vp : V) (ls : List V), vs = [.ref x, vp, .ref g] ∧ rep K B vp p ∧ Le B H ∧ H g = some (.lst ls) ∧ B g = none ∧ Reps K B ls names ∧ H x = some (.ins C dx []) ∧ B x = none ∧
  ∃ r, f p names = some r ∧ ∀ o B' H' ls', Le B B' → Le B' H' → (∀ a u, a ≠ x → a ≠ g → H a = some u → H' a = some u) → (∀ a, B a = none → ¬ H a = none → B' a = none) → H' x = some o → insφ C x (fl r) K B' x o → H' g = some (.lst ls') → B' g = none → Reps K B' ls' names → Q .non H'
structure MdO (c : Ct) (x : Str) (C : Addr) {α β R : Type} [Rep α] [Rep β] (fl : R → List (Str × Slot)) (f : α → List β → Option R) : Prop where
  ok : ∃ (j : Nat) (fa : Addr) (fd : FuncData) (ps : List Str), FnOk c.P c.w c.K c.mg c.base CX0 j fa fd ps (spIO c.K C fl f) ∧ j + 1 ≤ c.k ∧ c.mg x = some (.ref C) ∧ Mk c.K C fa ∧ Binds c.K fd ps []
section
variable {S L R R0 α β : Type} [Rep R] [Rep R0] [Rep α] [Rep β] {c : Ct} {env : List Slot} {rest : List Stmt} {e : Expr} {mk : S → List Slot} {lk : L → List Slot}
end
structure GkO (P : Program) (w : World) (K : PySem.W.Frag) (mg : Str → Option Value) (base : Heap) (j : Nat) (x : Str) (C : Addr) {α β R : Type} [Rep α] [Rep β] (fl : R → List (Str × Slot)) (f : α → List β → Option R) : Prop where
  ok : ∃ (fa : Addr) (fd : FuncData) (ps : List Str), FnOk P w K mg base CX0 j fa fd ps (spIO K C fl f) ∧ mg x = some (.ref C) ∧ Mk K C fa ∧ Binds K fd ps []
theorem GkO.md {P : Program} {w : World} {K : PySem.W.Frag} {mg : Str → Option Value} {base : Heap} {j : Nat} {x : Str} {C : Addr} {α β R : Type} [Rep α] [Rep β] {fl : R → List (Str × Slot)} {f : α → List β → Option R} (G : GkO P w K mg base j x C fl f) {c : Ct} (hP : c.P = P := by rfl) (hw : c.w = w := by rfl) (hK : c.K = K := by rfl) (hmg : c.mg = mg := by rfl) (hb : c.base = base := by rfl) (hj : j + 1 ≤ c.k := by exact Nat.le_of_ble_eq_true rfl) : MdO c x C fl f := by
  obtain ⟨P', w', K', mg', base', k, N, sc, fn, df⟩ := c
  cases hP; cases hw; cases hK; cases hmg; cases hb
  obtain ⟨fa, fd, ps, h1, h2, h3, h4⟩ := G.ok
  exact ⟨j, fa, fd, ps, h1, hj, h2, h3, h4⟩
end Dn

set_option Elab.async false
set_option linter.all false
set_option maxRecDepth 100000
set_option maxHeartbeats 1000000
namespace Dn
open PySem PySem.Spec
structure Col where
  it : Addr
  l : Addr
  xs : List Value
abbrev ZO (h : Heap) (z TI TO : Addr) (f0 : Value) (f1 : Bool) : Prop := h.get? z = some { cls := .type "zip", dict := none, data := .fields #[f0, .bool f1, .bool false, .ref TI, .ref TO], slots := #[] }
abbrev TP (h : Heap) (T : Addr) (vs : List Value) : Prop := h.get? T = some { cls := .type "tuple", data := .seq vs.toArray }
structure ZA (z TI TO : Addr) (cs : List Col) : Prop where
  a1 : TI ≠ z
  a2 : TO ≠ z
  a3 : TI ≠ TO
  i1 : ∀ c ∈ cs, c.it ≠ z
  i2 : ∀ c ∈ cs, c.it ≠ TI
  i3 : ∀ c ∈ cs, c.it ≠ TO
  l1 : ∀ c ∈ cs, c.l ≠ z
  l3 : ∀ c ∈ cs, c.l ≠ TO
  li : ∀ c ∈ cs, ∀ d ∈ cs, c.l ≠ d.it
  nd : (cs.map (·.it)).Nodup
def Ext (z TO : Addr) (cs : List Col) (h h' : Heap) : Prop := ∀ c o, c ≠ z → c ≠ TO → c ∉ cs.map (·.it) → h.get? c = some o → h'.get? c = some o
structure Part (s : Shared) (z TI TO : Addr) (cs : List Col) (n : Nat) (f0 : Value) (f1 : Bool) (k : Nat) (row : List Value) (s' : Shared) : Prop where
  sh : ∃ h', s' = { s with heap := h' }
  zo : ZO s'.heap z TI TO f0 f1
  tp : ∃ vs, TP s'.heap TO vs ∧ vs.length = cs.length ∧ ∀ j, j < k → vs[j]? = row[j]?
  done : ∀ j c, j < k → cs[j]? = some c → s'.heap.IsListIter c.it c.l (n + 1)
  rest : ∀ j c, k ≤ j → cs[j]? = some c → s'.heap.IsListIter c.it c.l n
  ls : ∀ c ∈ cs, s'.heap.IsList c.l c.xs.toArray
  sz : s'.heap.objs.size = s.heap.objs.size
  ext : Ext z TO cs s.heap s'.heap
section
variable {prog : Program} {w : World} {A : Around} {E : Value → Shared → Prop} {s : Shared} {z TI TO : Addr} {cs : List Col} {n : Nat}
structure PartB (s : Shared) (z TI TO : Addr) (cs : List Col) (n : Nat) (f0 : Value) (f1 : Bool) (vs0 : List Value) (k : Nat) (s' : Shared) : Prop where
  sh : ∃ h', s' = { s with heap := h' }
  zo : ZO s'.heap z TI TO f0 f1
  tp : TP s'.heap TO vs0
  done : ∀ j c, j < k → cs[j]? = some c → s'.heap.IsListIter c.it c.l (n + 1)
  rest : ∀ j c, k ≤ j → cs[j]? = some c → s'.heap.IsListIter c.it c.l n
  ls : ∀ c ∈ cs, s'.heap.IsList c.l c.xs.toArray
  sz : s'.heap.objs.size = s.heap.objs.size
  ext : Ext z TO cs s.heap s'.heap
structure ZSt (h : Heap) (z TI TO : Addr) (cs : List Col) (n : Nat) : Prop where
  zo : ∃ f0 f1, ZO h z TI TO f0 f1 ∧ (f0 = .none ∨ ∃ t, f0 = rawInt t)
  ti : TP h TI (cs.map fun c => Value.ref c.it)
  to : ∃ vs, TP h TO vs ∧ vs.length = cs.length
  its : ∀ c ∈ cs, h.IsListIter c.it c.l n
theorem ZSt.typeIs (S : ZSt s.heap z TI TO cs n) : s.TypeIs (.ref z) "zip" := by
  obtain ⟨f0, f1, hz, _⟩ := S.zo
  exact ⟨_, hz, rfl⟩
end
end Dn

set_option Elab.async false
set_option linter.all false
set_option maxRecDepth 100000
set_option maxHeartbeats 1000000
namespace Dn
open PySem PySem.Spec
structure NewZ (h : Heap) (ls : List Addr) (h' : Heap) : Prop where
  zo : ZO h' (h.objs.size + ls.length + 2) (h.objs.size + ls.length) (h.objs.size + ls.length + 1) .none false
  ti : TP h' (h.objs.size + ls.length) ((List.range ls.length).map fun j => Value.ref (h.objs.size + j))
  to : TP h' (h.objs.size + ls.length + 1) (List.replicate ls.length .none)
  its : ∀ (j : Nat) (l : Addr), ls[j]? = some l → h'.IsListIter (h.objs.size + j) l 0
  sz : h'.objs.size = h.objs.size + ls.length + 3
  keep : ∀ c o, h.get? c = some o → h'.get? c = some o
end Dn

set_option Elab.async false
set_option linter.all false
set_option maxRecDepth 100000
set_option maxHeartbeats 1000000
namespace Dn
open PySem PySem.Spec
section
variable {M : Model} {A : Around} {E : Value → Shared → Prop} {s : Shared}
end
section
variable {prog : Program} {w : World} {A : Around} {E : Value → Shared → Prop} {s : Shared}
end
open L2
open Rep (rep)
abbrev cf (c : Col) : Addr × Addr := (c.it, c.l)
theorem cf_mem {cs cs0 : List Col} (h : cs.map cf = cs0.map cf) {c : Col} (m : c ∈ cs) : ∃ c0 ∈ cs0, c0.it = c.it ∧ c0.l = c.l := by
  have : cf c ∈ cs0.map cf := by rw [← h]; exact List.mem_map.mpr ⟨c, m, rfl⟩
  obtain ⟨c0, m0, e⟩ := List.mem_map.mp this
  exact ⟨c0, m0, congrArg Prod.fst e, congrArg Prod.snd e⟩
theorem cf_it {cs cs0 : List Col} (h : cs.map cf = cs0.map cf) : cs.map (·.it) = cs0.map (·.it) := by
  have := congrArg (List.map Prod.fst) h
  rw [List.map_map, List.map_map] at this
  exact this
theorem cf_len {cs cs0 : List Col} (h : cs.map cf = cs0.map cf) : cs.length = cs0.length := by
  have := congrArg List.length h
  rw [List.length_map, List.length_map] at this
  exact this
theorem ZA.of {z TI TO : Addr} {cs cs0 : List Col} (h : cs.map cf = cs0.map cf) (D : ZA z TI TO cs0) : ZA z TI TO cs := by
  refine ⟨D.a1, D.a2, D.a3, fun c m => ?_, fun c m => ?_, fun c m => ?_, fun c m => ?_, fun c m => ?_, fun c m d n => ?_, by rw [cf_it h]; exact D.nd⟩
  all_goals obtain ⟨c0, m0, e1, e2⟩ := cf_mem h m
  · rw [← e1]; exact D.i1 c0 m0
  · rw [← e1]; exact D.i2 c0 m0
  · rw [← e1]; exact D.i3 c0 m0
  · rw [← e2]; exact D.l1 c0 m0
  · rw [← e2]; exact D.l3 c0 m0
  · obtain ⟨d0, n0, g1, g2⟩ := cf_mem h n
    rw [← e2, ← g1]
    exact D.li c0 m0 d0 n0
theorem ZSt.of {hp : Heap} {z TI TO : Addr} {cs cs0 : List Col} {n : Nat} (h : cs.map cf = cs0.map cf) (S : ZSt hp z TI TO cs0 n) : ZSt hp z TI TO cs n := by
  refine ⟨S.zo, ?_, ?_, fun c m => ?_⟩
  · have : (cs.map fun c => Value.ref c.it) = cs0.map fun c => Value.ref c.it := by
      have := congrArg (List.map Value.ref) (cf_it h)
      rw [List.map_map, List.map_map] at this
      exact this
    rw [this]
    exact S.ti
  · rw [cf_len h]
    exact S.to
  · obtain ⟨c0, m0, e1, e2⟩ := cf_mem h m
    rw [← e1, ← e2]
    exact S.its c0 m0
theorem ZSt.at {hp hp' : Heap} {z TI TO : Addr} {cs : List Col} {n : Nat} (S : ZSt hp z TI TO cs n) (k : ∀ b ∈ z :: TI :: TO :: cs.map (·.it), ∀ o, hp.get? b = some o → hp'.get? b = some o) : ZSt hp' z TI TO cs n := by
  obtain ⟨⟨f0, f1, hz, hf⟩, hTI, ⟨vs, hTO, hl⟩, hi⟩ := S
  exact ⟨⟨f0, f1, k z (by simp) _ hz, hf⟩, k TI (by simp) _ hTI, ⟨vs, k TO (by simp) _ hTO, hl⟩, fun c m => (hi c m).at fun o e => k c.it (List.mem_cons_of_mem _ (List.mem_cons_of_mem _ (List.mem_cons_of_mem _ (List.mem_map.mpr ⟨c, m, rfl⟩)))) o e⟩
section
variable {X : Cx} {pins : List (Addr × Obj)} {σ : St} {H : Hp} {s : Shared}
end
end Dn

set_option Elab.async false
set_option linter.all false
set_option maxRecDepth 100000
set_option maxHeartbeats 1000000
namespace Dn
open PySem PySem.Spec L2
open Rep (rep)
open ORep (orep)
theorem nn {a b : Nat} (h : ¬ a = b) : @Ne Addr a b := h
section
variable {α : Type} [Rep α]
end
section
variable {c : Ct} {env : List Slot} {e : Expr} {α : Type} [Rep α]
end
end Dn

set_option Elab.async false
set_option linter.all false
set_option maxRecDepth 100000
set_option maxHeartbeats 1000000
namespace Dn
open PySem PySem.Spec
abbrev LS (h : Heap) (S : Addr) (vs : List Value) (c : Nat) : Prop := h.get? S = some { cls := .type "list", dict := none, data := .seq vs.toArray c, slots := #[] }
structure Got (h : Heap) (S N : Nat) (rows : List (List Value)) (ps : List (Addr × List Value)) (c : Nat) : Prop where
  ls : LS h S (ps.map fun p => Value.ref p.1) c
  rw_ : ps.map (·.2) = rows
  nd : (ps.map (·.1)).Nodup
  at_ : ∀ p ∈ ps, TP h p.1 p.2 ∧ N ≤ p.1
section
variable {prog : Program} {w : World} {A : Around} {z TI TO : Addr} {cs : List Col}
end
end Dn

set_option Elab.async false
set_option linter.all false
set_option maxRecDepth 100000
set_option maxHeartbeats 1000000
namespace Dn
open PySem PySem.Spec L2
open Rep (rep)
open ORep (orep)
section
variable {X : Cx} {pins : List (Addr × Obj)} {σ : St} {H H' : Hp} {s : Shared} {h' : Heap} {t' : Nat}
end
section
variable {c : Ct} {env : List Slot} {e : Expr} {α : Type} [Rep α]
end
end Dn

set_option Elab.async false
set_option linter.all false
set_option maxRecDepth 100000
namespace Dn
open PySem PySem.Spec PyProof.Rows L2
open Rep (rep)
open ORep (orep)
end Dn

set_option Elab.async false
set_option linter.all false
set_option maxRecDepth 100000
namespace Dn
open PySem PySem.Spec L2
open Rep (rep)
open ORep (orep)
structure Tri (α β γ : Type) where
  x1 : α
  x2 : β
  x3 : γ
section
variable {α β γ : Type}
instance [Rep α] [Rep β] [Rep γ] : Rep (Tri α β γ) := ⟨fun K B v x => ∃ a v1 v2 v3, v = .ref a ∧ SqL K B a [v1, v2, v3] ∧ rep K B v1 x.x1 ∧ rep K B v2 x.x2 ∧ rep K B v3 x.x3,
  fun e ⟨a, v1, v2, v3, h, s, r1, r2, r3⟩ => ⟨a, v1, v2, v3, h, e.l s, Rep.mono e r1, Rep.mono e r2, Rep.mono e r3⟩⟩
instance [Dat α] [Dat β] [Dat γ] : Dat (Tri α β γ) where
  toD := fun x => .list [Dat.toD x.x1, Dat.toD x.x2, Dat.toD x.x3]
  dp := fun h => by
    obtain ⟨a, v1, v2, v3, rfl, s, r1, r2, r3⟩ := h
    exact .lst s (.cons (Dat.dp r1) (.cons (Dat.dp r2) (.cons (Dat.dp r3) .nil)))
  dep := max (Dat.dep α) (max (Dat.dep β) (Dat.dep γ)) + 1
  hdep := fun x => by
    have h1 := Dat.hdep x.x1
    have h2 := Dat.hdep x.x2
    have h3 := Dat.hdep x.x3
    simp only [PyData.depth, PyData.depthAll]
    omega
  dec := fun x y => by
    letI := Dat.dec (α := α); letI := Dat.dec (α := β); letI := Dat.dec (α := γ)
    exact decidable_of_iff (x.x1 = y.x1 ∧ x.x2 = y.x2 ∧ x.x3 = y.x3) ⟨fun ⟨a, b, c⟩ => by cases x; cases y; cases a; cases b; cases c; rfl, fun h => by rw [h]; exact ⟨rfl, rfl, rfl⟩⟩
  eqv := fun x y => by
    obtain ⟨x1, x2, x3⟩ := x
    obtain ⟨y1, y2, y3⟩ := y
    rw [PyData.eqv, PyData.eqvAll, PyData.eqvAll, PyData.eqvAll, PyData.eqvAll, Dat.eqv, Dat.eqv, Dat.eqv]
    letI := Dat.dec (α := α)
    letI := Dat.dec (α := β)
    letI := Dat.dec (α := γ)
    by_cases h : x1 = y1 <;> by_cases g : x2 = y2 <;> by_cases k : x3 = y3 <;> simp [h, g, k]
end
section
variable {c : Ct} {env : List Slot} {a e1 e2 e3 : Expr} {α β γ : Type} [Rep α] [Rep β] [Rep γ]
theorem de_tri1 {j : Nat} {p1 pos : Pos} {m : Option (Tri α β γ)} (h : De c env a m) : De c env (.Subscript a (.Constant (.int 0) j p1) pos) (m.map (·.x1)) := by
  obtain ⟨t, h1, h2⟩ := h
  refine ⟨tOp (rIxL c.K) t (tC (.int 0)), fun X F => pe_ix (by rw [← F.K]; exact ix_list) (h1 X F) pe_int (fun _ _ => rfl), fun z hz B H σ E Q q => ?_⟩
  obtain ⟨x, ex, rfl⟩ := Option.map_eq_some_iff.mp hz
  refine h2 x ex B H σ E _ fun v B1 H1 k1 r => ?_
  obtain ⟨p, v1, v2, v3, rfl, s, r1, r2, r3⟩ := r
  exact ⟨p, _, 0, v1, rfl, rfl, k1.bh.l s, rfl, q v1 B1 H1 k1 r1⟩
theorem de_tri2 {j : Nat} {p1 pos : Pos} {m : Option (Tri α β γ)} (h : De c env a m) : De c env (.Subscript a (.Constant (.int 1) j p1) pos) (m.map (·.x2)) := by
  obtain ⟨t, h1, h2⟩ := h
  refine ⟨tOp (rIxL c.K) t (tC (.int 1)), fun X F => pe_ix (by rw [← F.K]; exact ix_list) (h1 X F) pe_int (fun _ _ => rfl), fun z hz B H σ E Q q => ?_⟩
  obtain ⟨x, ex, rfl⟩ := Option.map_eq_some_iff.mp hz
  refine h2 x ex B H σ E _ fun v B1 H1 k1 r => ?_
  obtain ⟨p, v1, v2, v3, rfl, s, r1, r2, r3⟩ := r
  exact ⟨p, _, 1, v2, rfl, rfl, k1.bh.l s, rfl, q v2 B1 H1 k1 r2⟩
theorem de_tri3 {j : Nat} {p1 pos : Pos} {m : Option (Tri α β γ)} (h : De c env a m) : De c env (.Subscript a (.Constant (.int 2) j p1) pos) (m.map (·.x3)) := by
  obtain ⟨t, h1, h2⟩ := h
  refine ⟨tOp (rIxL c.K) t (tC (.int 2)), fun X F => pe_ix (by rw [← F.K]; exact ix_list) (h1 X F) pe_int (fun _ _ => rfl), fun z hz B H σ E Q q => ?_⟩
  obtain ⟨x, ex, rfl⟩ := Option.map_eq_some_iff.mp hz
  refine h2 x ex B H σ E _ fun v B1 H1 k1 r => ?_
  obtain ⟨p, v1, v2, v3, rfl, s, r1, r2, r3⟩ := r
  exact ⟨p, _, 2, v3, rfl, rfl, k1.bh.l s, rfl, q v3 B1 H1 k1 r3⟩
end
theorem ladd_any (l : Addr) (items : Array Value) (n : Nat) (b : Addr) (items2 : Array Value) (n2 : Nat) (sl sl2 : Array (Option Value)) (hc0 : items.size + items2.size ≤ sizeLine) :
    Meets (Builtin.«list.__add__» ⟨[.ref l, .ref b], []⟩) (fun _ R s => s.heap.get? l = some { cls := .type "list", dict := none, data := .seq items n, slots := sl } ∧ s.heap.get? b = some { cls := .type "list", dict := none, data := .seq items2 n2, slots := sl2 } ∧ R (.ok (.ret (.ref s.heap.objs.size))) { s with heap := s.heap.push { cls := .type "list", data := .seq (items ++ items2) } }) :=
  .of_wp fun prog w A R s h => by
    obtain ⟨hp, g, d, tk, os⟩ := s
    obtain ⟨hl, hb, h⟩ := h
    have f1 := AutoSeq1.idx_int
    have f2 := AutoSeq1.sub_tuple_tuple
    have f3 := AutoSeq1.sub_list_list
    have f4 := AutoSeq1.sub_tuple_list
    have f5 := AutoSeq1.sub_list_tuple
    wp_walk using AutoSeq1.wpAny_loadPart' hl, AutoSeq1.wpAny_loadPart' hb
    exact ⟨_, rfl, h⟩
def rCatL (K : PySem.W.Frag) : R2 := fun x y H Q => ∃ l b xs zs, x = .ref l ∧ y = .ref b ∧ SqL K H l xs ∧ SqL K H b zs ∧ xs.length + zs.length ≤ sizeLine ∧ ∀ p, H p = none → Q (.ref p) (upd H p (.lst (xs ++ zs)))
theorem op_catL {X : Cx} : OpR X (binaryOp .Add) (rCatL X.K) := by
  intro pins s σ H x y v u Q I rx ry h
  obtain ⟨l, b, xs, zs, rfl, rfl, hH, hB, hz, q⟩ := h
  cases rx
  cases ry
  obtain ⟨its, r, ⟨⟨cls, dd, data, sl⟩, n, e, hc, hd, hdt⟩, _⟩ := I.list hH
  obtain ⟨its2, r2, ⟨⟨cls2, dd2, data2, sl2⟩, n2, e2, hc2, hd2, hdt2⟩, _⟩ := I.list hB
  simp only at hc hd hdt hc2 hd2 hdt2
  subst hc hd hdt hc2 hd2 hdt2
  have l1 := r.length
  have l2 := r2.length
  refine concat_meets ⟨_, e, rfl⟩ ⟨_, e2, rfl⟩ PySem.noFill_list_add PySem.seq_list_add F.slot_list_add F.entry_list_add (F.args_list_add_2 _ _) (ladd_any l its.toArray n b its2.toArray n2 sl sl2 (by rw [List.size_toArray, List.size_toArray]; omega)) ⟨e, e2, ?_⟩
  have ea : its.toArray ++ its2.toArray = (its ++ its2).toArray := by simp
  rw [ea]
  exact ⟨.ref _, _, I.lnew (t' := s.toks) (r.append r2) (by rw [List.length_append]; omega), rfl, q _ I.fresh⟩
section
variable {c : Ct} {env : List Slot} {a b : Expr} {α : Type} [Rep α]
theorem dn_catL {pos : Pos} {m n : Option (List α)} (h : De c env a m) (g : De c env b n) : DeN c env (.BinOp a .Add b pos) (m.bind fun x => n.bind fun y => if len1 (x.length + y.length) = true then some (x ++ y) else none) := by
  obtain ⟨t, h1, h2⟩ := h
  obtain ⟨u, g1, g2⟩ := g
  refine ⟨tOp (rCatL c.K) t u, fun X F => pe_op (by rw [← F.K]; exact op_catL) (h1 X F) (g1 X F), fun z hz B H σ E Q q => ?_⟩
  obtain ⟨x, ex, hz⟩ := bind_some hz
  obtain ⟨y, ey, hz⟩ := bind_some hz
  split at hz
  · rename_i hl
    cases hz
    refine h2 x ex B H σ E _ fun v B1 H1 k1 r => g2 y ey B1 H1 σ (E.grow k1) _ fun w B2 H2 k2 r2 => ?_
    obtain ⟨p, vs, rfl, s, r⟩ := r
    obtain ⟨p2, ws, rfl, s2, r2⟩ := r2
    have r := r.mono k2.b
    exact ⟨p, p2, vs, ws, rfl, rfl, k2.bh.l (k2.b.l s), k2.bh.l s2, by rw [r.len, r2.len]; exact len1_ok hl, fun p3 hn => q p3 _ B2 _ (k1.none (k2.none hn)) ((k1.trans k2).trans (Grow.free k2.bh hn)) (k2.bh.none hn) upd_same ⟨_, rfl, r.append r2⟩⟩
  · cases hz
end
end Dn

set_option Elab.async false
set_option linter.all false
set_option maxRecDepth 100000
namespace Dn
open PySem PySem.Spec L2
open Rep (rep)
open ORep (orep)
section
variable {c : Ct} {env : List Slot} {e o : Expr} {es : List Expr} {α β γ R : Type} [Rep α] [Rep β] [ORep R]
theorem dn_meth0m {f : α × Unit → Option R} {x : Str} {p pos : Pos} {m : Option α} (D : MtN c α x f) (h : De c env o m)
    (hpe : ∀ (X : Cx) (t : TE) (C fa : Addr) (j : Nat) (fd : FuncData) (ps : List Str), PE X o t → Cls X.K C → Meth X.K C x fa → FnOk X.prog X.w X.K X.mg X.base CX0 j fa fd ps (spN X.K f) → Room j X.A → Binds X.K fd ps [] → PE X (.Call (.Attribute o x p) [] [] pos) (tMeth C x (spN X.K f) [] E0 t tNil) := by
      intro X t C fa j fd ps h1 h2 h3 h4 h5 h6; exact pe_meth0 h1 h2 h3 h4 h5 h6 .nil pass0) : DeN c env (.Call (.Attribute o x p) [] [] pos) (m.bind fun y => f (y, ())) := by
  obtain ⟨C, j, fa, fd, ps, F, hj, hc, hm, hb, hl⟩ := D.ok
  obtain ⟨t, h1, h2⟩ := h
  refine ⟨tMeth C x (spN c.K f) [] E0 t tNil, fun X Fx => ?_, fun z hz B H σ E Q q => ?_⟩
  · rw [← Fx.K]
    refine hpe X t C fa j fd ps (h1 X Fx) (by rw [Fx.K]; exact hc) (by rw [Fx.K]; exact hm) ?_ (Fx.room.mono hj) (by rw [Fx.K]; exact hb)
    rw [Fx.P, Fx.w, Fx.K, Fx.mg, Fx.base]
    exact F
  · obtain ⟨y, hy, hz⟩ := Option.bind_eq_some_iff.mp hz
    refine h2 y hy B H σ E _ fun v B1 H1 k1 r => ?_
    obtain ⟨a, dx, fs, rfl, e1, e2⟩ := hl B1 v y r
    exact ⟨a, dx, fs, rfl, k1.bh a _ e1, e2, (y, ()), z, B1, hz, k1.bh, .cons r .nil, fun p' o' B2 H2 np k2 nb hp r2 => q p' o' B2 H2 (k1.none np) (k1.trans k2) nb hp r2⟩
end
section
variable {c : Ct} {env : List Slot} {α β γ δ R : Type} [Rep α] [Rep β] [Rep γ] [Rep δ] [Rep R]
end
end Dn

set_option Elab.async false
set_option linter.all false
set_option maxRecDepth 100000
namespace Dn
open PySem PySem.Spec PyProof.Rows L2
open Rep (rep)
open ORep (orep)
section
variable {c : Ct} {env : List Slot} {a e o : Expr}
end
section
variable {S L R : Type} [Rep R] {c : Ct} {env : List Slot} {rest : List Stmt} {e : Expr} {mk : S → List Slot} {lk : L → List Slot}
end
section
variable {P : Program} {w : World} {A : Around} {E : Value → Shared → Prop} {s : Shared}
end
section
variable {X : Cx}
end
section
variable {c : Ct} {env : List Slot} {a : Expr}
end
end Dn

set_option Elab.async false
set_option linter.all false
set_option maxRecDepth 100000
namespace Dn
open PySem PySem.Spec L2
open Rep (rep)
open ORep (orep)
instance {α β : Type} [Rep α] [Rep β] [Thaw α] [Thaw β] : Thaw (α × β) := ⟨fun h r => by
  obtain ⟨b, v1, v2, rfl, s, r1, r2⟩ := r
  exact ⟨b, v1, v2, rfl, SqT_thaw h s, Thaw.thaw h r1, Thaw.thaw h r2⟩⟩
section
variable {c : Ct} {env : List Slot} {st : Stmt} {e : Expr} {α β : Type} [Rep α] [Rep β]
end
end Dn

set_option Elab.async false
set_option linter.all false
set_option maxRecDepth 100000
namespace Dn
open PySem PySem.Spec L2
open Rep (rep)
open ORep (orep)
structure DL where
  l : List (Int × List Int)
def DL.get (d : DL) (k : Int) : Option (List Int) := (d.l.find? fun p => decide (p.1 = k)).map (·.2)
def DL.put (d : DL) (k : Int) (v : List Int) : DL := if (d.get k).isSome = true then ⟨d.l.map fun p => if p.1 = k then (p.1, v) else p⟩ else ⟨d.l ++ [(k, v)]⟩
abbrev Tr := Int × Addr × List Int
abbrev trK (t : Tr) : Key × V := (Sum.inl t.1, V.ref t.2.1)
def trC (a : Addr) (ts : List Tr) : List Addr := a :: ts.map (·.2.1)
structure DLAt (H : Hp) (a : Addr) (ts : List Tr) : Prop where
  obj : H a = some (.dK (ts.map trK))
  nd : (trC a ts).Nodup
  kd : (ts.map (·.1)).Nodup
  lst : ∀ t ∈ ts, H t.2.1 = some (.lst (t.2.2.map V.int))
def psiDL (d : DL) : PySem.W.Frag → Hp → Hp → Addr → List Addr → Prop := fun _ _ H a cs => ∃ ts : List Tr, cs = trC a ts ∧ ts.map (fun t => (t.1, t.2.2)) = d.l ∧ DLAt H a ts
theorem DLAt.same {H H' : Hp} {a : Addr} {ts : List Tr} (h : DLAt H a ts) (e : ∀ c ∈ trC a ts, H' c = H c) : DLAt H' a ts :=
  ⟨by rw [e a (List.mem_cons_self ..)]; exact h.obj, h.nd, h.kd, fun t ht => by rw [e t.2.1 (List.mem_cons_of_mem _ (List.mem_map.mpr ⟨t, ht, rfl⟩))]; exact h.lst t ht⟩
theorem psiDL_mono (d : DL) : ∀ K B B' H H' a cs, Le B B' → (∀ c ∈ cs, H' c = H c) → psiDL d K B H a cs → psiDL d K B' H' a cs := fun K B B' H H' a cs _ e ⟨ts, h1, h2, h3⟩ => ⟨ts, h1, h2, h3.same (by rw [← h1]; exact e)⟩
abbrev Slot.dl (d : DL) : Slot := .deep (psiDL d) (psiDL_mono d)
section
variable {K : PySem.W.Frag} {B0 H0 B H B' H' : Hp} {σ : St} {env env' : List Slot}
abbrev NoDeep (env : List Slot) (i : Nat) : Prop := ((env.set i .any).all fun s => !isDeep s) = true
theorem NoDeep.at {i : Nat} (n : NoDeep env i) {k : Nat} {ψ hm} (h : env[k]? = some (.deep ψ hm)) : k = i := by
  by_cases q : i = k
  · exact q.symm
  · have m : Slot.deep ψ hm ∈ env.set i .any := List.mem_of_getElem? (i := k) (by rw [List.getElem?_set_ne q]; exact h)
    have := List.all_eq_true.mp n _ m
    cases this
end
section
variable {S L R : Type} [Rep R] {c : Ct} {env : List Slot} {rest : List Stmt} {e i ke de : Expr} {mk : S → List Slot} {lk : L → List Slot}
end
end Dn

set_option Elab.async false
set_option linter.all false
set_option maxRecDepth 100000
namespace Dn
open PySem PySem.Spec L2
open Rep (rep)
open ORep (orep)
def dlK (t : Int × V) : Key × V := (Sum.inl t.1, t.2)
def repDL (K : PySem.W.Frag) (B : Hp) (o : HO) (x : DL) : Prop := ∃ ts : List (Int × V), o = .dK (ts.map dlK) ∧ ts.map (·.1) = x.l.map (·.1) ∧ Reps K B (ts.map (·.2)) (x.l.map (·.2))
theorem repDL_mono {K : PySem.W.Frag} {B B' : Hp} {o : HO} {x : DL} (e : Le B B') (h : repDL K B o x) : repDL K B' o x := by
  obtain ⟨ts, h1, h2, h3⟩ := h
  exact ⟨ts, h1, h2, h3.mono e⟩
instance : ORep DL := ⟨repDL, repDL_mono⟩
section
variable {K : PySem.W.Frag} {B0 H0 B H B' H' : Hp} {σ : St} {env env' : List Slot}
end
section
variable {S L R : Type} [Rep R] {c : Ct} {env : List Slot} {b : List Stmt} {mk : S → List Slot} {lk : L → List Slot}
end
instance : Rep Empty := ⟨fun _ _ _ _ => False, fun _ h => h⟩
theorem Wk.set {l l' : List Slot} (w : Wk l l') (s : Slot) : ∀ n : Nat, Wk (l.set n s) (l'.set n s) := by
  induction w with
  | nil => exact fun n => .nil
  | same w ih =>
    intro n
    cases n with
    | zero => exact .same w
    | succ n => exact .same (ih n)
  | any w ih =>
    intro n
    cases n with
    | zero => exact .same w
    | succ n => exact .any (ih n)
theorem Wk.drop {s : Slot} : ∀ {l : List Slot} {n : Nat}, l[n]? = some .any → Wk (l.set n s) l
  | [], n, h => by cases h
  | x :: l, 0, h => by
    cases h
    exact .any (Wk.refl l)
  | x :: l, n + 1, h => .same (Wk.drop (l := l) (n := n) h)
section
variable {S T L R : Type} [Rep R] {c : Ct} {env : List Slot} {rest b : List Stmt} {mk : S → List Slot} {lk : L → List Slot}
end
end Dn

set_option Elab.async false
set_option linter.all false
set_option maxRecDepth 100000
set_option maxHeartbeats 1000000
namespace L2
open PySem PySem.Spec PyProof.Rows
inductive Sc where
  | l (a : Addr)
  | t (a : Addr)
def Sc.a : Sc → Addr
  | .l a => a
  | .t a => a
def SqS (K : PySem.W.Frag) (H : Hp) : Sc → List V → Prop
  | .l a, xs => SqL K H a xs
  | .t a, xs => SqT K H a xs
def itS (h : Heap) (it : Addr) : Sc → Nat → Prop
  | .l a, i => h.IsListIter it a i
  | .t a, i => h.IsTupleIter it a i
def isS (h : Heap) : Sc → Array Value → Prop
  | .l a, xs => h.IsList a xs
  | .t a, xs => h.IsTuple a xs
def oS : Sc → Obj
  | .l a => { cls := Value.type "list_iterator", data := Data.fields #[Value.ref a, Value.int 0 0] }
  | .t a => { cls := Value.type "tuple_iterator", data := Data.fields #[Value.ref a, Value.int 0 0] }
theorem begins_S : ∀ (sc : Sc) (items : Array Value), Begins (Value.ref sc.a) (oS sc) fun h => isS h sc items
  | .l a, items => begins_list a items
  | .t a, items => begins_tuple a items
theorem itS_new {h : Heap} {it : Addr} : ∀ {sc : Sc}, h.get? it = some (oS sc) → itS h it sc 0
  | .l a, e => ⟨_, e, rfl, rfl⟩
  | .t a, e => ⟨_, e, rfl, rfl⟩
theorem draws_S {prog : Program} {w : World} {A : Around} (hh : A.handled = none) (it : Addr) : ∀ (sc : Sc), sc.a ≠ it → ∀ items : Array Value, Draws prog w A it [it, sc.a] items.size (fun i v => items[i]? = some v) fun i h => itS h it sc i ∧ isS h sc items
  | .l a, hn, items => Draws.list hh it a hn items
  | .t a, hn, items => Draws.tuple hh it a hn items
theorem itS_obj {h : Heap} {it : Addr} {i : Nat} : ∀ {sc : Sc}, itS h it sc i → ∃ o, h.get? it = some o ∧ ∀ v : Option Value, o.data ≠ .cell v
  | .l a, ⟨o, ho, _, hd⟩ => ⟨o, ho, fun v q => by rw [hd] at q; cases q⟩
  | .t a, ⟨o, ho, _, hd⟩ => ⟨o, ho, fun v q => by rw [hd] at q; cases q⟩
theorem itS_at {h h' : Heap} {it : Addr} {i : Nat} (k : ∀ o, h.get? it = some o → h'.get? it = some o) : ∀ {sc : Sc}, itS h it sc i → itS h' it sc i
  | .l a, s => s.at k
  | .t a, s => s.at k
theorem isS_obj {h : Heap} {xs : Array Value} : ∀ {sc : Sc}, isS h sc xs → ∃ o, h.get? sc.a = some o
  | .l a, ⟨o, ho, _⟩ => ⟨o, ho⟩
  | .t a, ⟨o, ho, _⟩ => ⟨o, ho⟩
section
variable {X : Cx} {pins : List (Addr × Obj)} {σ : St} {H : Hp} {s : Shared}
theorem inv_S (I : Inv X pins σ H s) : ∀ {sc : Sc} {xs : List V}, SqS X.K H sc xs → ∃ its, Vals xs its ∧ isS s.heap sc its.toArray
  | .l a, xs, q => let ⟨its, rv, p, _⟩ := I.list q; ⟨its, rv, p.isList⟩
  | .t a, xs, q => let ⟨its, rv, p, _⟩ := I.tuple q; ⟨its, rv, p⟩
theorem ne_S {h : Heap} {it : Addr} {i : Nat} {xs : Array Value} : ∀ {sc : Sc}, itS h it sc i → isS h sc xs → sc.a ≠ it
  | .l a, ⟨o, ho, hc, _⟩, ⟨o', ho', hc', _⟩ => ne_of_cls ho' ho (by rw [hc, hc']; decide)
  | .t a, ⟨o, ho, hc, _⟩, ⟨o', ho', hc', _⟩ => ne_of_cls ho' ho (by rw [hc, hc']; decide)
theorem inj_S (I : Inv X pins σ H s) : ∀ {sc : Sc} {xs ys : List V}, SqS X.K H sc xs → SqS X.K H sc ys → xs = ys
  | .l a, xs, ys, p, q => I.list_inj p q
  | .t a, xs, ys, p, q => I.tuple_inj p q
end
def It2 (K : PySem.W.Frag) (s1 s2 : Sc) : It :=
  ⟨fun i H => ∃ xs ys x y, SqS K H s1 xs ∧ SqS K H s2 ys ∧ xs[i]? = some x ∧ ys[i]? = some y,
    fun i H v H' => ∃ T x y, v = V.ref T ∧ H T = none ∧ H' = upd H T (HO.tup [x, y]) ∧ (∀ xs, SqS K H s1 xs → xs[i]? = some x) ∧ ∀ ys, SqS K H s2 ys → ys[i]? = some y,
    fun i H => ∃ xs ys, SqS K H s1 xs ∧ SqS K H s2 ys ∧ i = min xs.length ys.length⟩
theorem turn_zip2 {P : Program} {w : World} {K : PySem.W.Frag} {elts : List Expr} {kk : Nat} {tpos : Pos} {s1 s2 : Sc} {z TI TO i1 i2 : Addr} (sep : ZipSep2 z TI TO i1 i2 [i1, s1.a] [i2, s2.a]) :
    Turn P w K (.Tuple elts kk tpos) (It2 K s1 s2) [z, TI, TO, i1, i2] z (fun i h => IsZip h z TI TO .none ∧ IsTupOf2 h TI (.ref i1) (.ref i2) ∧ (∃ a1 a2, IsTupOf2 h TO a1 a2) ∧ itS h i1 s1 i ∧ itS h i2 s2 i) where
  mem := by simp
  obj := fun i h st b hb => by
    obtain ⟨z1, z2, ⟨a1, a2, z3⟩, z4, z5⟩ := st
    have e' : b = z ∨ b = TI ∨ b = TO ∨ b = i1 ∨ b = i2 := by simpa using hb
    rcases e' with rfl | rfl | rfl | rfl | rfl
    · exact ⟨_, z1, fun v q => nomatch q⟩
    · exact ⟨_, z2, fun v q => nomatch q⟩
    · exact ⟨_, z3, fun v q => nomatch q⟩
    · exact itS_obj z4
    · exact itS_obj z5
  keep := fun i h h' st k => by
    obtain ⟨z1, z2, ⟨a1, a2, z3⟩, z4, z5⟩ := st
    exact ⟨k z (by simp) _ z1, k TI (by simp) _ z2, ⟨a1, a2, k TO (by simp) _ z3⟩, itS_at (fun o => k i1 (by simp) o) z4, itS_at (fun o => k i2 (by simp) o) z5⟩
  item := by
    intro X hP hw hK hc i pins s σ H E I hf st hg
    subst hP hw hK
    obtain ⟨z1, z2, z3, z4, z5⟩ := st
    obtain ⟨xs, ys, x, y, q1, q2, hx, hy⟩ := hg
    obtain ⟨as, r1, p1⟩ := inv_S I q1
    obtain ⟨bs, r2, p2⟩ := inv_S I q2
    obtain ⟨u1, hu1, ru1⟩ := r1.get hx
    obtain ⟨u2, hu2, ru2⟩ := r2.get hy
    have m1 : i < as.toArray.size := by rw [List.size_toArray]; exact (List.getElem?_eq_some_iff.mp hu1).1
    have m2 : i < bs.toArray.size := by rw [List.size_toArray]; exact (List.getElem?_eq_some_iff.mp hu2).1
    have d1 : s1.a ≠ i1 := ne_S z4 p1
    have d2 : s2.a ≠ i2 := ne_S z5 p2
    have W := WalksT.zipD2 (prog := X.prog) (w := X.w) (A := X.A) sep (draws_S (prog := X.prog) (w := X.w) (A := X.A.in1) (I.ok.hd hc) i1 s1 d1 as.toArray) (draws_S (prog := X.prog) (w := X.w) (A := X.A.in1) (I.ok.hd hc) i2 s2 d2 bs.toArray)
    refine W.item i s _ _ (Nat.lt_min.mpr ⟨m1, m2⟩) ⟨z1, z2, z3, ⟨z4, p1⟩, ⟨z5, p2⟩⟩ fun T vals h' tk hP hT hTup hMid hk => ?_
    obtain ⟨x1, x2, e1, e2, rfl⟩ := hP
    rw [List.getElem?_toArray, hu1] at e1
    rw [List.getElem?_toArray, hu2] at e2
    cases e1
    cases e2
    have nT := W.apart i T h' hMid
    refine ⟨_, rfl, W.go elts kk tpos i T _ _ _ hMid fun h'' st' hk' => ?_⟩
    obtain ⟨w1, w2, w3, ⟨w4, _⟩, ⟨w5, _⟩⟩ := st'
    have hT2 : h''.IsTuple T #[u1, u2] := let ⟨o, ho, r⟩ := hTup; ⟨o, hk' T o nT ho, r⟩
    have hTn : H T = none := I.hok.fresh hT
    have new : ObjOk X.prog X.w (upd H T (.tup [x, y])) h'' T (.tup [x, y]) := ⟨by show 2 ≤ sizeLine; decide, [u1, u2], .cons ru1 (.cons ru2 .nil), hT2⟩
    have I1 : Inv X pins σ (upd H T (.tup [x, y])) { s with heap := h'', toks := tk } :=
      I.turnedNew (ch := [z, TO, i1, i2]) (fun b o hb q => hk' b o hb (hk b o hb q)) (fun b hb => hf b (by
        have e' : b = z ∨ b = TO ∨ b = i1 ∨ b = i2 := by simpa using hb
        rcases e' with rfl | rfl | rfl | rfl <;> simp)) hT new
    refine ⟨.ref T, _, I1, rfl, ⟨T, x, y, rfl, hTn, rfl, fun xs' h => by rw [inj_S I h q1]; exact hx, fun ys' h => by rw [inj_S I h q2]; exact hy⟩, ⟨w1, w2, w3, w4, w5⟩, fun b hb => ?_⟩
    have hlt : b < s.heap.objs.size := by
      have e' : b = z ∨ b = TI ∨ b = TO ∨ b = i1 ∨ b = i2 := by simpa using hb
      obtain ⟨a1, a2, z3⟩ := z3
      rcases e' with rfl | rfl | rfl | rfl | rfl
      · exact Heap.lt_size z1
      · exact Heap.lt_size z2
      · exact Heap.lt_size z3
      · obtain ⟨o, ho, _⟩ := itS_obj z4; exact Heap.lt_size ho
      · obtain ⟨o, ho, _⟩ := itS_obj z5; exact Heap.lt_size ho
    rw [upd_ne (Nat.ne_of_lt (Nat.lt_of_lt_of_le hlt hT))]
    exact (hf b hb).1
  done := by
    intro X hP hw hK hc i pins s σ H E I hf st hg
    subst hP hw hK
    obtain ⟨z1, z2, z3, z4, z5⟩ := st
    obtain ⟨xs, ys, q1, q2, rfl⟩ := hg
    obtain ⟨as, r1, p1⟩ := inv_S I q1
    obtain ⟨bs, r2, p2⟩ := inv_S I q2
    have d1 : s1.a ≠ i1 := ne_S z4 p1
    have d2 : s2.a ≠ i2 := ne_S z5 p2
    have W := WalksT.zipD2 (prog := X.prog) (w := X.w) (A := X.A) sep (draws_S (prog := X.prog) (w := X.w) (A := X.A.in1) (I.ok.hd hc) i1 s1 d1 as.toArray) (draws_S (prog := X.prog) (w := X.w) (A := X.A.in1) (I.ok.hd hc) i2 s2 d2 bs.toArray)
    rw [r1.length, r2.length] at z4 z5
    refine W.done s _ _ ⟨z1, z2, z3, ⟨by rw [List.size_toArray, List.size_toArray]; exact z4, p1⟩, ⟨by rw [List.size_toArray, List.size_toArray]; exact z5, p2⟩⟩ fun h' tk hk => ⟨rfl, I.turnedL (ch := [z, TO, i1, i2]) (fun b o hb q => hk b o hb q) (fun b hb => hf b (by
        have e' : b = z ∨ b = TO ∨ b = i1 ∨ b = i2 := by simpa using hb
        rcases e' with rfl | rfl | rfl | rfl <;> simp))⟩
  self := fun A i s Q E st h => wpAny_pyIter_zip st.1 h
def iZip2 (K : PySem.W.Frag) (ta : TA) : TI := fun σ H R => ta σ H fun vs H1 => ∃ s1 s2 xs ys, vs = [.ref s1.a, .ref s2.a] ∧ SqS K H1 s1 xs ∧ SqS K H1 s2 ys ∧ R (It2 K s1 s2) H1
theorem pi_zip2 {X : Cx} {e e2 : Expr} {ta : TA} {p pos tpos : Pos} {elts : List Expr} {kk : Nat} (hg : Gl X "zip") (hm : X.mg "zip" = none) (ha : PA X [e, e2] ta) (hs : starEach [e, e2] X.env = (false, eval e X.env) :: starEach [e2] X.env := by rfl) (hp : ((backTo pos (starEach [e2] X.env)).any fun x => x.fst) = false := by rfl) :
    PI X (.Tuple elts kk tpos) (.Call (.Name "zip" p) [e, e2] [] pos) (iZip2 X.K ta) := by
  refine ⟨fun pins s σ H R I h => ?_⟩
  refine Call_ (ld_blt I hg hm boot_zip (PyProof.Rows.callWith_type1 (thn (ha.run pos pins s σ H _ I h) fun us s1 ⟨vs, H1, I1, r1, q1⟩ => ?_) hs hp))
  obtain ⟨c1, c2, xs, ys, ex, h1, h2, q⟩ := q1
  subst ex
  cases r1 with
  | cons r rr =>
    cases rr with
    | cons r' rr' =>
      cases rr'
      cases r
      cases r'
      obtain ⟨as, _, p1⟩ := inv_S I1 h1
      obtain ⟨bs, _, p2⟩ := inv_S I1 h2
      refine zip_begins2 (begins_S c1 as.toArray) (begins_S c2 bs.toArray) p1 p2 fun h' a1 a2 a3 a4 a5 hsz hk => wpAny_pyIter_zip a1 ?_
      have I2 : Inv X pins σ H1 { s1 with heap := h' } := I1.kept (t' := s1.toks) hk
      have lt1 : c1.a < s1.heap.objs.size := let ⟨o, ho⟩ := isS_obj p1; Heap.lt_size ho
      have lt2 : c2.a < s1.heap.objs.size := let ⟨o, ho⟩ := isS_obj p2; Heap.lt_size ho
      refine ⟨_, _, _, _, H1, rfl, I2, turn_zip2 (zip_sep2 (fp1 := [c1.a]) (fp2 := [c2.a]) (fun b hb => by rw [List.mem_singleton.mp hb]; exact lt1) (fun b hb => by rw [List.mem_singleton.mp hb]; exact lt2)), ⟨a1, a2, ⟨_, _, a3⟩, itS_new a4, itS_new a5⟩, fun b hb => ?_, q⟩
      have hle : s1.heap.objs.size ≤ b := by
        have e' : b = s1.heap.objs.size + 4 ∨ b = s1.heap.objs.size + 2 ∨ b = s1.heap.objs.size + 3 ∨ b = s1.heap.objs.size ∨ b = s1.heap.objs.size + 1 := by simpa using hb
        rcases e' with z | z | z | z | z <;> rw [z]
        · exact Nat.le_add_right _ _
        · exact Nat.le_add_right _ _
        · exact Nat.le_add_right _ _
        · exact Nat.le_refl _
        · exact Nat.le_add_right _ _
      exact I1.fpOk hle (I1.hok.fresh hle)
theorem walk_zip2 {K : PySem.W.Frag} {s1 s2 : Sc} {xs ys : List V} : Walk (It2 K s1 s2) (min xs.length ys.length) (fun H => SqS K H s1 xs ∧ SqS K H s2 ys) (YPair (fun i => xs[i]?) fun i => ys[i]?) := by
  refine ⟨fun i H hi ⟨h1, h2⟩ => ?_, fun H ⟨h1, h2⟩ => ⟨xs, ys, h1, h2, rfl⟩, fun i H x H' hi ⟨h1, h2⟩ y => ?_⟩
  · have e1 : i < xs.length := by omega
    have e2 : i < ys.length := by omega
    exact ⟨xs, ys, xs[i], ys[i], h1, h2, List.getElem?_eq_getElem e1, List.getElem?_eq_getElem e2⟩
  · obtain ⟨T, x, y, rfl, hT, rfl, g1, g2⟩ := y
    exact ⟨T, x, y, rfl, hT, rfl, g1 xs h1, g2 ys h2⟩
end L2

set_option Elab.async false
set_option linter.all false
set_option maxRecDepth 100000
set_option maxHeartbeats 1000000
namespace L2
open PySem PySem.Spec PyProof.Rows
end L2
namespace Dn
open PySem PySem.Spec L2
open Rep (rep)
theorem sqle {K : PySem.W.Frag} {H H' : Hp} (l : Le H H') : ∀ {sc : Sc} {xs : List V}, SqS K H sc xs → SqS K H' sc xs
  | .l a, _, s => l.l s
  | .t a, _, s => l.t s
structure Trp (α β γ : Type) where
  x1 : α
  x2 : β
  x3 : γ
instance [Rep α] [Rep β] [Rep γ] : Rep (Trp α β γ) := ⟨fun K B v x => ∃ a v1 v2 v3, v = .ref a ∧ SqT K B a [v1, v2, v3] ∧ rep K B v1 x.x1 ∧ rep K B v2 x.x2 ∧ rep K B v3 x.x3,
  fun l ⟨a, v1, v2, v3, e, s, r1, r2, r3⟩ => ⟨a, v1, v2, v3, e, l.t s, Rep.mono l r1, Rep.mono l r2, Rep.mono l r3⟩⟩
section
variable {c : Ct} {env : List Slot} {e a b d elt iter tg : Expr} {α β γ : Type} [Rep α] [Rep β] [Rep γ]
structure SrcOf (S α : Type) [Rep S] [Rep α] (f : S → List α) : Prop where
  ok : ∀ (K : PySem.W.Frag) (B : Hp) (v : V) (x : S), rep K B v x → ∃ sc vs, v = .ref (Sc.a sc) ∧ SqS K B sc vs ∧ Reps K B vs (f x)
theorem srcL : SrcOf (List α) α fun x => x := ⟨fun K B v x ⟨a, vs, e, s, r⟩ => ⟨.l a, vs, e, s, r⟩⟩
theorem srcT : SrcOf (Tup α) α fun x => x.l := ⟨fun K B v x ⟨a, vs, e, s, r⟩ => ⟨.t a, vs, e, s, r⟩⟩
theorem di_zip2 {S T : Type} [Rep S] [Rep T] {f : S → List α} {g : T → List β} (F1 : SrcOf S α f) (F2 : SrcOf T β g) {elts : List Expr} {k : Nat} {tpos p pos : Pos} {m : Option S} {n : Option T} (hm : c.mg "zip" = none) (h : De c env a m) (h' : De c env b n) (hg : Gv c "zip" := by rfl)
    (hpe : ∀ (X : Cx) (t u : TE), PE X a t → PE X b u → Gl X "zip" → X.mg "zip" = none → PI X (.Tuple elts k tpos) (.Call (.Name "zip" p) [a, b] [] pos) (iZip2 X.K (tCons t (tCons u tNil))) := by
      intro X t u h1 h2 h3 h4; exact pi_zip2 h3 h4 (pa_cons h1 (pa_cons h2 pa_nil))) :
    DeItT c env (.Tuple elts k tpos) (.Call (.Name "zip" p) [a, b] [] pos) (m.bind fun x => n.bind fun y => some ((f x).zip (g y))) := by
  obtain ⟨t, h1, h2⟩ := h
  obtain ⟨u, g1, g2⟩ := h'
  refine ⟨iZip2 c.K (tCons t (tCons u tNil)), fun X F => by rw [← F.K]; exact hpe X t u (h1 X F) (g1 X F) (fits_gl F hg) (by rw [F.mg]; exact hm), fun xs hx B H σ E R q => ?_⟩
  obtain ⟨x, ex, hx⟩ := bind_some hx
  obtain ⟨y, ey, hx⟩ := bind_some hx
  cases hx
  refine h2 x ex B H σ E _ fun v B1 H1 k1 r => g2 y ey B1 H1 σ (E.grow k1) _ fun v2 B2 H2 k2 r2 => ?_
  obtain ⟨p1, vs, rfl, s1, r⟩ := F1.ok _ _ _ _ r
  obtain ⟨p2, ws, rfl, s2, r2⟩ := F2.ok _ _ _ _ r2
  have s1' := (sqle k2.b s1)
  refine ⟨p1, p2, vs, ws, rfl, (sqle k2.bh s1'), (sqle k2.bh s2), q _ B2 H2 (k1.trans k2) (dwalk_pair walk_zip2 (fun H l => ⟨(sqle l s1'), (sqle l s2)⟩) (r.mono k2.b) r2)⟩
theorem di_zipLT {elts : List Expr} {k : Nat} {tpos p pos : Pos} {m : Option (List α)} {n : Option (Tup β)} (hm : c.mg "zip" = none) (h : De c env a m) (h' : De c env b n) (hg : Gv c "zip" := by rfl)
    (hpe : ∀ (X : Cx) (t u : TE), PE X a t → PE X b u → Gl X "zip" → X.mg "zip" = none → PI X (.Tuple elts k tpos) (.Call (.Name "zip" p) [a, b] [] pos) (iZip2 X.K (tCons t (tCons u tNil))) := by
      intro X t u h1 h2 h3 h4; exact pi_zip2 h3 h4 (pa_cons h1 (pa_cons h2 pa_nil))) :
    DeItT c env (.Tuple elts k tpos) (.Call (.Name "zip" p) [a, b] [] pos) (m.bind fun x => n.bind fun y => some (x.zip y.l)) := di_zip2 srcL srcT hm h h' hg hpe
theorem dg_trp {t1 t2 t3 : Expr} {pos : Pos} {k : Nat} {f : α → List Slot → List Slot} {g : β → List Slot → List Slot} {f3 : γ → List Slot → List Slot} {is js ks : List Nat} (h : DeTg c t1 f is) (h' : DeTg c t2 g js) (h'' : DeTg c t3 f3 ks)
    (hs : ∀ env, (assignEach [t1, t2, t3] env).map (·.2) = assign t1 env :: (assignEach [t2, t3] env).map (·.2) := by intro _; rfl) (hs2 : ∀ env, (assignEach [t2, t3] env).map (·.2) = assign t2 env :: (assignEach [t3] env).map (·.2) := by intro _; rfl) (hs3 : ∀ env, (assignEach [t3] env).map (·.2) = assign t3 env :: (assignEach [] env).map (·.2) := by intro _; rfl)
    (hn : ∀ env, (assignEach [t1, t2, t3] env).length = 3 := by intro _; rfl) (hst : ∀ env, (assignEach [t1, t2, t3] env).findIdx? (·.1) = none := by intro _; rfl) :
    DeTg c (.Tuple [t1, t2, t3] k pos) (fun (x : Trp α β γ) env => f3 x.x3 (g x.x2 (f x.x1 env))) (is ++ js ++ ks) := by
  obtain ⟨u, h1, h2⟩ := h
  obtain ⟨w, g1, g2⟩ := h'
  obtain ⟨z, j1, j2⟩ := h''
  refine ⟨gTup c.K 3 (gCons u (gCons w (gCons z gNil))), fun X F => by rw [← F.K]; exact pg_tup F.calm (pgs_cons (h1 X F) (pgs_cons (g1 X F) (pgs_cons (j1 X F) pgs_nil (hs3 _)) (hs2 _)) (hs _)) (hn _) (hst _), ⟨fun x env B H σ v E r Q q => ?_⟩⟩
  obtain ⟨p, v1, v2, v3, rfl, s, r1, r2, r3⟩ := r
  refine ⟨p, [v1, v2, v3], rfl, E.bh.t s, rfl, v1, [v2, v3], rfl, ?_⟩
  refine h2.run x.x1 env B H σ v1 E r1 _ fun σ1 E1 l1 k1 o1 => ⟨v2, [v3], rfl, ?_⟩
  refine g2.run x.x2 _ B H σ1 v2 E1 r2 _ fun σ2 E2 l2 k2 o2 => ⟨v3, [], rfl, ?_⟩
  refine j2.run x.x3 _ B H σ2 v3 E2 r3 _ fun σ3 E3 l3 k3 o3 => ⟨rfl, q σ3 E3 ((l3.trans l2).trans l1) (fun i hi => ?_) fun i s hi hs => ?_⟩
  · have n1 : i ∉ is := fun z => hi (List.mem_append_left _ (List.mem_append_left _ z))
    have n2 : i ∉ js := fun z => hi (List.mem_append_left _ (List.mem_append_right _ z))
    have n3 : i ∉ ks := fun z => hi (List.mem_append_right _ z)
    exact ⟨(k3 i n3).1.trans ((k2 i n2).1.trans (k1 i n1).1), (k3 i n3).2.trans ((k2 i n2).2.trans (k1 i n1).2)⟩
  · by_cases z : i ∈ ks
    · exact o3 i s z hs
    · rw [(k3 i z).2] at hs
      have hi' := (List.mem_append.mp hi).resolve_right z
      by_cases y : i ∈ js
      · exact o2 i s y hs
      · rw [(k2 i y).2] at hs
        exact o1 i s ((List.mem_append.mp hi').resolve_right y) hs
end
end Dn

set_option Elab.async false
set_option linter.all false
set_option maxRecDepth 100000
set_option maxHeartbeats 1000000
namespace Dn
open PySem PySem.Spec L2
open Rep (rep)
instance [Rep α] [Rep β] : Rep (α ⊕ β) := ⟨fun K B v x => match x with
  | .inl a => rep K B v a
  | .inr b => rep K B v b, fun {K B B' v x} e r => by
    cases x with
    | inl a => exact Rep.mono e (show rep K B v a from r)
    | inr b => exact Rep.mono e (show rep K B v b from r)⟩
section
variable {c : Ct} {env : List Slot} {e a : Expr} {α β : Type} [Rep α] [Rep β]
theorem de_inl {m : Option α} (h : De c env e m) : De c env e (m.map (Sum.inl : α → α ⊕ β)) := by
  obtain ⟨t, h1, h2⟩ := h
  refine ⟨t, h1, fun z hz B H σ E Q q => ?_⟩
  obtain ⟨x, ex, rfl⟩ := Option.map_eq_some_iff.mp hz
  exact h2 x ex B H σ E Q fun v B1 H1 k1 r => q v B1 H1 k1 r
theorem de_inr {m : Option β} (h : De c env e m) : De c env e (m.map (Sum.inr : β → α ⊕ β)) := by
  obtain ⟨t, h1, h2⟩ := h
  refine ⟨t, h1, fun z hz B H σ E Q q => ?_⟩
  obtain ⟨x, ex, rfl⟩ := Option.map_eq_some_iff.mp hz
  exact h2 x ex B H σ E Q fun v B1 H1 k1 r => q v B1 H1 k1 r
theorem de_outl {m : Option (α ⊕ β)} (h : De c env e m) : De c env e (m.bind Sum.getLeft?) := by
  obtain ⟨t, h1, h2⟩ := h
  refine ⟨t, h1, fun z hz B H σ E Q q => ?_⟩
  obtain ⟨x, ex, hz⟩ := bind_some hz
  cases x with
  | inl y => cases hz; exact h2 _ ex B H σ E Q fun v B1 H1 k1 r => q v B1 H1 k1 r
  | inr y => cases hz
theorem de_outr {m : Option (α ⊕ β)} (h : De c env e m) : De c env e (m.bind Sum.getRight?) := by
  obtain ⟨t, h1, h2⟩ := h
  refine ⟨t, h1, fun z hz B H σ E Q q => ?_⟩
  obtain ⟨x, ex, hz⟩ := bind_some hz
  cases x with
  | inr y => cases hz; exact h2 _ ex B H σ E Q fun v B1 H1 k1 r => q v B1 H1 k1 r
  | inl y => cases hz
class TupN (α : Type) [Rep α] (n : outParam (α → Nat)) : Prop where
  ok : ∀ (K : PySem.W.Frag) (B : Hp) (v : V) (x : α), rep K B v x → ∃ p vs, v = .ref p ∧ SqT K B p vs ∧ vs.length = n x
instance : TupN (α × β) (fun _ => 2) := ⟨fun K B v x ⟨p, v1, v2, e, s, _, _⟩ => ⟨p, [v1, v2], e, s, rfl⟩⟩
instance [Rep γ] : TupN (Trp α β γ) (fun _ => 3) := ⟨fun K B v x ⟨p, v1, v2, v3, e, s, _⟩ => ⟨p, [v1, v2, v3], e, s, rfl⟩⟩
instance {n : α → Nat} {m : β → Nat} [A : TupN α n] [C : TupN β m] : TupN (α ⊕ β) (Sum.elim n m) := ⟨fun K B v x r => by
  cases x with
  | inl a => exact A.ok K B v a r
  | inr b => exact C.ok K B v b r⟩
theorem ty_tup {K : PySem.W.Frag} {H : Hp} {a : Addr} {vs : List V} (s : SqT K H a vs) : TyX K H (.ref a) (.type "tuple") := by
  rcases s with s | ⟨o, its, n, e, hc, _⟩
  · rcases s with s | ⟨o, s⟩
    · exact .base (.tup s)
    · exact .fTuple s
  · exact .kTuple e hc
theorem de_isiT {n : α → Nat} [A : TupN α n] {p p2 pos : Pos} {m : Option α} (hm : c.mg "isinstance" = none) (hm2 : c.mg "tuple" = none) (h : De c env a m) (hg : Gv c "isinstance" := by rfl) (hg2 : Gv c "tuple" := by rfl) (hs : ∀ env, starEach [a, .Name "tuple" p2] env = (false, eval a env) :: starEach [.Name "tuple" p2] env := by intro _; rfl) :
    De c env (.Call (.Name "isinstance" p) [a, .Name "tuple" p2] [] pos) (m.bind fun _ => some true) := by
  obtain ⟨t, h1, h2⟩ := h
  refine ⟨tCB (rIsi c.K) (tCons t (tCons (tC (.ty "tuple")) tNil)), fun X F => pe_callB (by rw [← F.K]; exact call_isi) (fits_gl F hg) (by rw [F.mg]; exact hm) (by decide +kernel)
    (pa_cons (h1 X F) (pa_cons (pe_bltn (v := .ty "tuple") (fits_gl F hg2) (by rw [F.mg]; exact hm2) (by decide +kernel) rfl) pa_nil rfl) (hs _)) (by decide) (by decide) (hs _) rfl, fun z hz B H σ E Q q => ?_⟩
  obtain ⟨y, ey, hz⟩ := bind_some hz
  cases hz
  exact h2 y ey B H σ E _ fun v B1 H1 k1 r => by
    obtain ⟨b, vs, rfl, s, _⟩ := A.ok _ _ _ _ r
    exact ⟨.ref b, .ty "tuple", .type "tuple", .type "tuple", true, rfl, .ty _, ty_tup (k1.bh.t s), kit_ty (by decide +kernel), q _ B1 H1 k1 rfl⟩
theorem de_lenT {n : α → Nat} [A : TupN α n] {p pos : Pos} {m : Option α} (hm : c.mg "len" = none) (h : De c env a m) (hg : Gv c "len" := by rfl) (hs : ∀ env, starEach [a] env = (false, eval a env) :: starEach [] env := by intro _; rfl) :
    De c env (.Call (.Name "len" p) [a] [] pos) (m.bind fun x => some (n x : Int)) :=
  de_b1 (r := fun xs H Q => ∃ p ys, xs = [.ref p] ∧ (SqL c.K H p ys ∨ SqT c.K H p ys) ∧ Q (.int ys.length) H) (fun X F => by rw [← F.K]; exact call_len_seq)
    (fun y z hz B H v hB r Q q => by
      cases hz
      obtain ⟨l, vs, rfl, s, r⟩ := A.ok _ _ _ _ r
      refine ⟨l, vs, rfl, .inr (hB.t s), ?_⟩
      rw [r]
      exact q _ B H (Grow.refl hB) rfl) hg hm PySem.boot_len h (by decide) (by decide) hs
end
end Dn

set_option Elab.async false
set_option linter.all false
set_option maxRecDepth 100000
set_option maxHeartbeats 1000000
namespace Dn
open PySem PySem.Spec
section
variable {prog : Program} {w : World}
end
end Dn

set_option Elab.async false
set_option linter.all false
set_option maxRecDepth 100000
set_option maxHeartbeats 1000000
namespace L2
open PySem PySem.Spec
end L2
namespace Dn
open PySem PySem.Spec L2
open Rep (rep)
structure Duo (α β : Type) where
  x1 : α
  x2 : β
structure Uno (α : Type) where
  x1 : α
section
variable {α β : Type}
instance [Rep α] [Rep β] : Rep (Duo α β) := ⟨fun K B v x => ∃ a v1 v2, v = .ref a ∧ SqL K B a [v1, v2] ∧ rep K B v1 x.x1 ∧ rep K B v2 x.x2, fun l ⟨a, v1, v2, e, s, r1, r2⟩ => ⟨a, v1, v2, e, l.l s, Rep.mono l r1, Rep.mono l r2⟩⟩
instance [Rep α] : Rep (Uno α) := ⟨fun K B v x => ∃ a v1, v = .ref a ∧ SqL K B a [v1] ∧ rep K B v1 x.x1, fun l ⟨a, v1, e, s, r1⟩ => ⟨a, v1, e, l.l s, Rep.mono l r1⟩⟩
end
class StarOf (α : Type) (κ : outParam Type) (τ : outParam Type) [Rep α] [Rep κ] [Rep τ] (f : outParam (α → κ)) (g : outParam (α → τ)) : Prop where
  ok : ∀ (K : PySem.W.Frag) (B : Hp) (v : V) (a : α), rep K B v a → ∃ p x xs, v = .ref p ∧ SqT K B p (x :: xs) ∧ xs.length ≤ 900 ∧ rep K B x (f a) ∧ ∀ B' q, Le B B' → SqL K B' q xs → rep K B' (.ref q) (g a)
def st3 {κ α β : Type} (x : Trp κ α β) : Duo α β := ⟨x.x2, x.x3⟩
def st2 {κ α : Type} (x : κ × α) : Uno α := ⟨x.2⟩
section
variable {κ α β : Type} [Rep κ] [Rep α] [Rep β]
instance : StarOf (Trp κ α β) κ (Duo α β) (fun x => x.x1) st3 := ⟨fun K B v a ⟨p, v1, v2, v3, e, s, r1, r2, r3⟩ => ⟨p, v1, [v2, v3], e, s, (by show 2 ≤ 900; decide), r1, fun B' q l s' => ⟨q, v2, v3, rfl, s', Rep.mono l r2, Rep.mono l r3⟩⟩⟩
instance : StarOf (κ × α) κ (Uno α) (fun x => x.1) st2 := ⟨fun K B v a ⟨p, v1, v2, e, s, r1, r2⟩ => ⟨p, v1, [v2], e, s, (by show 1 ≤ 900; decide), r1, fun B' q l s' => ⟨q, v2, rfl, s', Rep.mono l r2⟩⟩⟩
end
instance {α β κ τ υ : Type} [Rep α] [Rep β] [Rep κ] [Rep τ] [Rep υ] {f : α → κ} {g : α → τ} {f' : β → κ} {g' : β → υ} [A : StarOf α κ τ f g] [C : StarOf β κ υ f' g'] : StarOf (α ⊕ β) κ (τ ⊕ υ) (Sum.elim f f') (Sum.map g g') := ⟨fun K B v a r => by
  cases a with
  | inl a => exact A.ok K B v a r
  | inr b => exact C.ok K B v b r⟩
section
variable {S L R : Type} [Rep R]
variable {c : Ct} {env : List Slot} {rest : List Stmt} {e a : Expr} {mk : S → List Slot} {lk : L → List Slot} {α β κ τ : Type} [Rep α] [Rep β] [Rep κ] [Rep τ]
theorem dg_duo {t1 t2 : Expr} {pos : Pos} {k : Nat} {f : α → List Slot → List Slot} {g : β → List Slot → List Slot} {is js : List Nat} (h : DeTg c t1 f is) (h' : DeTg c t2 g js)
    (hs : ∀ env, (assignEach [t1, t2] env).map (·.2) = assign t1 env :: (assignEach [t2] env).map (·.2) := by intro _; rfl) (hs2 : ∀ env, (assignEach [t2] env).map (·.2) = assign t2 env :: (assignEach [] env).map (·.2) := by intro _; rfl)
    (hn : ∀ env, (assignEach [t1, t2] env).length = 2 := by intro _; rfl) (hst : ∀ env, (assignEach [t1, t2] env).findIdx? (·.1) = none := by intro _; rfl) :
    DeTg c (.Tuple [t1, t2] k pos) (fun (x : Duo α β) env => g x.x2 (f x.x1 env)) (is ++ js) := by
  obtain ⟨u, h1, h2⟩ := h
  obtain ⟨w, g1, g2⟩ := h'
  refine ⟨gLst c.K 2 (gCons u (gCons w gNil)), fun X F => by rw [← F.K]; exact pg_lst F.calm (pgs_cons (h1 X F) (pgs_cons (g1 X F) pgs_nil (hs2 _)) (hs _)) (hn _) (hst _), ⟨fun x env B H σ v E r Q q => ?_⟩⟩
  obtain ⟨p, v1, v2, rfl, s, r1, r2⟩ := r
  refine ⟨p, [v1, v2], rfl, E.bh.l s, rfl, v1, [v2], rfl, ?_⟩
  refine h2.run x.x1 env B H σ v1 E r1 _ fun σ1 E1 l1 k1 o1 => ⟨v2, [], rfl, ?_⟩
  refine g2.run x.x2 _ B H σ1 v2 E1 r2 _ fun σ2 E2 l2 k2 o2 => ⟨rfl, q σ2 E2 (l2.trans l1) (fun i hi => ?_) fun i s hi hs => ?_⟩
  · have n1 : i ∉ is := fun z => hi (List.mem_append_left _ z)
    have n2 : i ∉ js := fun z => hi (List.mem_append_right _ z)
    exact ⟨(k2 i n2).1.trans (k1 i n1).1, (k2 i n2).2.trans (k1 i n1).2⟩
  · by_cases z : i ∈ js
    · exact o2 i s z hs
    · rw [(k2 i z).2] at hs
      exact o1 i s ((List.mem_append.mp hi).resolve_right z) hs
theorem de_head {f : α → κ} {g : α → τ} [St : StarOf α κ τ f g] {j : Nat} {p1 pos : Pos} {m : Option α} (h : De c env a m) : De c env (.Subscript a (.Constant (.int 0) j p1) pos) (m.map f) := by
  obtain ⟨t, h1, h2⟩ := h
  refine ⟨tOp (rIxT c.K) t (tC (.int 0)), fun X F => pe_ix (by rw [← F.K]; exact ix_tup) (h1 X F) pe_int (fun _ _ => rfl), fun z hz B H σ E Q q => ?_⟩
  obtain ⟨x, ex, rfl⟩ := Option.map_eq_some_iff.mp hz
  refine h2 x ex B H σ E _ fun v B1 H1 k1 r => ?_
  obtain ⟨p, v1, xs, rfl, s, _, r1, _⟩ := St.ok _ _ _ _ r
  exact ⟨p, _, 0, v1, rfl, rfl, k1.bh.t s, atI_nat (j := 0) rfl, q v1 B1 H1 k1 r1⟩
theorem de_trp2 {γ : Type} [Rep γ] {j : Nat} {p1 pos : Pos} {m : Option (Trp α β γ)} (h : De c env a m) : De c env (.Subscript a (.Constant (.int 1) j p1) pos) (m.map (·.x2)) := by
  obtain ⟨t, h1, h2⟩ := h
  refine ⟨tOp (rIxT c.K) t (tC (.int 1)), fun X F => pe_ix (by rw [← F.K]; exact ix_tup) (h1 X F) pe_int (fun _ _ => rfl), fun z hz B H σ E Q q => ?_⟩
  obtain ⟨x, ex, rfl⟩ := Option.map_eq_some_iff.mp hz
  refine h2 x ex B H σ E _ fun v B1 H1 k1 r => ?_
  obtain ⟨p, v1, v2, v3, rfl, s, r1, r2, r3⟩ := r
  exact ⟨p, _, 1, v2, rfl, rfl, k1.bh.t s, rfl, q v2 B1 H1 k1 r2⟩
theorem de_trp3 {γ : Type} [Rep γ] {j : Nat} {p1 pos : Pos} {m : Option (Trp α β γ)} (h : De c env a m) : De c env (.Subscript a (.Constant (.int 2) j p1) pos) (m.map (·.x3)) := by
  obtain ⟨t, h1, h2⟩ := h
  refine ⟨tOp (rIxT c.K) t (tC (.int 2)), fun X F => pe_ix (by rw [← F.K]; exact ix_tup) (h1 X F) pe_int (fun _ _ => rfl), fun z hz B H σ E Q q => ?_⟩
  obtain ⟨x, ex, rfl⟩ := Option.map_eq_some_iff.mp hz
  refine h2 x ex B H σ E _ fun v B1 H1 k1 r => ?_
  obtain ⟨p, v1, v2, v3, rfl, s, r1, r2, r3⟩ := r
  exact ⟨p, _, 2, v3, rfl, rfl, k1.bh.t s, rfl, q v3 B1 H1 k1 r3⟩
theorem de_trp {γ : Type} [Rep γ] {e1 e2 e3 : Expr} {j : Nat} {pos : Pos} {m1 : Option α} {m2 : Option β} {m3 : Option γ} (h1 : De c env e1 m1) (h2 : De c env e2 m2) (h3 : De c env e3 m3)
    (s1 : ∀ env, starEach [e1, e2, e3] env = (false, eval e1 env) :: starEach [e2, e3] env := by intro _; rfl) (s2 : ∀ env, starEach [e2, e3] env = (false, eval e2 env) :: starEach [e3] env := by intro _; rfl) (s3 : ∀ env, starEach [e3] env = (false, eval e3 env) :: starEach [] env := by intro _; rfl) :
    De c env (.Tuple [e1, e2, e3] j pos) (m1.bind fun x => m2.bind fun y => m3.bind fun z => some (Trp.mk x y z)) := by
  obtain ⟨t1, a1, b1⟩ := h1
  obtain ⟨t2, a2, b2⟩ := h2
  obtain ⟨t3, a3, b3⟩ := h3
  refine ⟨_, fun X F => pe_tup (pa_cons (a1 X F) (pa_cons (a2 X F) (pa_cons (a3 X F) pa_nil (s3 _)) (s2 _)) (s1 _)), fun w hw B H σ E Q q => ?_⟩
  obtain ⟨x, ex, hw⟩ := bind_some hw
  obtain ⟨y, ey, hw⟩ := bind_some hw
  obtain ⟨z, ez, hw⟩ := bind_some hw
  cases hw
  refine b1 x ex B H σ E _ fun v1 B1 H1 k1 r1 => b2 y ey B1 H1 σ (E.grow k1) _ fun v2 B2 H2 k2 r2 => b3 z ez B2 H2 σ ((E.grow k1).grow k2) _ fun v3 B3 H3 k3 r3 => ⟨by show 3 ≤ sizeLine; decide, fun p np => ?_⟩
  have g := (k1.trans k2).trans k3
  have gn := Grow.new (o := .tup [v1, v2, v3]) g.bh np
  exact q (.ref p) (upd B3 p (.tup [v1, v2, v3])) _ (g.trans gn) ⟨p, v1, v2, v3, rfl, SqT.of upd_same, Rep.mono (k2.b.trans (k3.b.trans gn.b)) r1, Rep.mono (k3.b.trans gn.b) r2, Rep.mono gn.b r3⟩

end
end Dn
namespace Dn
open PySem PySem.Spec L2
section
variable {c : Ct} {env : List Slot} {a b d : Expr} {α β γ : Type} [Rep α] [Rep β] [Rep γ]
end
end Dn

set_option Elab.async false
set_option linter.all false
set_option maxRecDepth 100000
set_option maxHeartbeats 1000000
namespace Dn
open PySem PySem.Spec L2
open Rep (rep)
open ORep (orep)
abbrev Td := Addr × List Ent
abbrev tdC (a : Addr) (ts : List Td) : List Addr := a :: ts.map (·.1)
section
variable {α : Type} [Rep α]
structure LDAt (K : PySem.W.Frag) (B H : Hp) (a : Addr) (ts : List Td) (d : List (Dct α)) : Prop where
  obj : H a = some (.lst (ts.map fun t => V.ref t.1))
  nd : (tdC a ts).Nodup
  cell : ∀ t ∈ ts, H t.1 = some (dHO t.1 t.2)
  rel : Paired (fun (t : Td) (x : Dct α) => DRel K B t.2 x.l) ts d
def psiLD (d : List (Dct α)) : PySem.W.Frag → Hp → Hp → Addr → List Addr → Prop := fun K B H a cs => ∃ ts : List Td, cs = tdC a ts ∧ LDAt K B H a ts d
theorem psiLD_mono (d : List (Dct α)) : ∀ K B B' H H' a cs, Le B B' → (∀ c ∈ cs, H' c = H c) → psiLD d K B H a cs → psiLD d K B' H' a cs := fun K B B' H H' a cs l e ⟨ts, h1, h2⟩ => by
  subst h1
  exact ⟨ts, rfl, by rw [e a (List.mem_cons_self ..)]; exact h2.obj, h2.nd, fun t ht => by rw [e t.1 (List.mem_cons_of_mem _ (List.mem_map.mpr ⟨t, ht, rfl⟩))]; exact h2.cell t ht, Paired.mapP h2.rel fun _ _ r => r.mono l⟩
abbrev Slot.ld (d : List (Dct α)) : Slot := .deep (psiLD d) (psiLD_mono d)
end
section
variable {K : PySem.W.Frag} {B0 H0 B H B' H' : Hp} {σ : St} {env env' : List Slot}
end
section
variable {S L R : Type} [Rep R] {c : Ct} {env : List Slot} {b rest : List Stmt} {mk : S → List Slot} {lk : L → List Slot} {α : Type} [Rep α]
variable {β : Type} [Rep β] {elt iter tg : Expr}
end
end Dn

set_option Elab.async false
set_option linter.all false
set_option maxRecDepth 100000
set_option maxHeartbeats 1000000
namespace L2
open PySem PySem.Spec Dn
abbrev fHO (o : Obj) (a : Addr) (xs : List Ent) : HO := .frz o (dHO a xs)
section
variable {X : Cx} {pins : List (Addr × Obj)} {σ : St} {H : Hp} {s : Shared} {a : Addr} {o : Obj} {xs : List Ent}
end
end L2
namespace Dn
open PySem PySem.Spec L2
open Rep (rep)
structure DctF (α : Type) where
  d : Dct α
section
variable {α : Type} [Rep α]
instance : Rep (DctF α) := ⟨fun K B v x => ∃ a o xs, v = .ref a ∧ B a = some (fHO o a xs) ∧ DRel K B xs x.d.l, fun e ⟨a, o, xs, h, s, r⟩ => ⟨a, o, xs, h, e a _ s, r.mono e⟩⟩
variable {c : Ct} {env : List Slot} {o i e : Expr}
end
section
variable {K : PySem.W.Frag} {B0 H0 B H H' : Hp} {σ : St} {env : List Slot}
end
section
variable {S L R : Type} [Rep R] {c : Ct} {env : List Slot} {b : List Stmt} {mk : S → List Slot} {lk : L → List Slot} {α : Type} [Rep α]
end
end Dn

set_option Elab.async false
set_option linter.all false
set_option maxRecDepth 100000
set_option maxHeartbeats 1000000
namespace L2
open PySem PySem.Spec
end L2
namespace Dn
open PySem PySem.Spec L2
open Rep (rep)
section
variable {S L R : Type} [Rep R]
variable {c : Ct} {env : List Slot} {rest : List Stmt} {e1 e2 : Expr} {mk : S → List Slot} {lk : L → List Slot} {α β : Type} [Rep α] [Rep β]
end
end Dn

set_option Elab.async false
set_option linter.all false
set_option maxRecDepth 100000
namespace Dn
open PySem PySem.Spec L2
open Rep (rep)
open ORep (orep)
section
variable {c : Ct} {env : List Slot} {e : Expr} {α : Type} [Rep α]
end
section
variable {S L β α : Type} [ORep β] [Rep α] {c : Ct} {env : List Slot} {st : Stmt} {rest : List Stmt} {e : Expr} {mk : S → List Slot} {lk : L → List Slot}
theorem dsn_own {γ : Type} [ORep γ] {i : Nat} {m : Option γ} {k : γ → Fl S L β} (h : AsN c env st i m) (g : ∀ x, DeSN c (env.set i (.own x)) rest mk lk (k x)) : DeSN c env (st :: rest) mk lk (Fl.bindO m k) := .mk fun B0 H0 B H σ O D P => by
  obtain ⟨x, ex, P⟩ := postN_bindO P
  obtain ⟨t, h1, h2⟩ := h
  refine cS_cons h1 ?_
  exact h2 x ex B H σ O.en _ fun p o B1 H1 np k1 nb hp r => g x B0 H0 B1 H1 _ (O.setN i np k1 nb hp r) D (P.mono k1.b)
theorem dsn_append (i : Nat) {x : Str} {p1 p2 p3 pos : Pos} {xs : List α} {m : Option α} {k : List α → Fl S L β} (hi : env[i]? = some (.own xs)) (hN : c.N[i]? = some x) (hv : Vis c.sc x) (h : De c env e m) (g : ∀ y, DeSN c (env.set i (.own (xs ++ [y]))) rest mk lk (k (xs ++ [y])))
    (hd : (x == ("__debug__" : Str)) = false := by decide) (hcd : (x == ("__classdict__" : Str)) = false := by decide) (hs : ∀ env, starEach [e] env = (false, eval e env) :: starEach [] env := by intro _; rfl)
    (hsw : ∀ env, swapsWith (.Call (.Attribute (.Name x p1) "append" p2) [e] [] p3) none pos.line env = pure false := by intro _; rfl)
    (hpe : ∀ X to t, PE X (.Name x p1) to → PE X e t → PE X (.Call (.Attribute (.Name x p1) "append" p2) [e] [] p3) (tBM X.K "list" rAppend to (tCons t tNil)) := by
      intro X to t ho ht; exact pe_bm PySem.F.plainAttrs_list PySem.F.slot_list_append PySem.F.type_list_append mt_append ho (pa_cons ht pa_nil)) :
    DeSN c env (.Expr (.Call (.Attribute (.Name x p1) "append" p2) [e] [] p3) pos :: rest) mk lk (Fl.bindO m fun y => if len1 xs.length = true then k (xs ++ [y]) else .err) := .mk fun B0 H0 B H σ O D P => by
  obtain ⟨y, ey, P⟩ := postN_bindO P
  obtain ⟨t, h1, h2⟩ := h
  split at P
  · rename_i hl
    refine cS_cons (t := tDrop (tBM c.K "list" rAppend (tVar i) (tCons t tNil))) (fun X F => by rw [← F.K]; exact ps_expr (hpe X _ t (pe_var (fits_ix F hN) (fits_vis F hv) hd hcd) (h1 X F)) (hsw _)) ?_
    obtain ⟨a, o, e1, e2, e3, vs, rfl, r⟩ := O.en.own hi
    refine ⟨.ref a, e1, .inl ⟨rfl, _, SqL.of e2⟩, ?_⟩
    refine h2 y ey B H σ O.en _ fun v B1 H1 k1 rv => ?_
    have O1 := O.grow k1
    refine ⟨a, vs, v, rfl, rfl, k1.h a _ e2, ?_, ?_⟩
    · rw [r.len]
      exact Nat.lt_of_le_of_lt (of_decide_eq_true hl) (by decide)
    · exact g y B0 H0 B1 _ σ (O1.change i hi e1 ⟨_, rfl, (r.mono k1.b).append (.cons rv .nil)⟩) D (P.mono k1.b)
  · exact P.elim
end
end Dn

set_option Elab.async false
set_option linter.all false
set_option maxRecDepth 100000
namespace Dn
abbrev Ln := Nat × (Nat → Int)
structure Ech (p : Int) (n : Nat) (rs : List Ln) : Prop where
  lt : ∀ r ∈ rs, r.1 < n
  one : ∀ r ∈ rs, r.2 r.1 % p = 1 % p
  low : rs.Pairwise fun u v => v.2 u.1 % p = 0
theorem Ech.nil (p : Int) (n : Nat) : Ech p n [] := ⟨(fun _ h => nomatch h), (fun _ h => nomatch h), .nil⟩
theorem Ech.grow {p : Int} {n : Nat} {rs : List Ln} (E : Ech p n rs) {a : Nat} {r : Nat → Int} (ha : a < n) (ho : r a % p = 1 % p) (hz : ∀ s ∈ rs, r s.1 % p = 0) : Ech p n (rs ++ [(a, r)]) :=
  ⟨fun s hs => by
    rcases List.mem_append.mp hs with hs | hs
    · exact E.lt s hs
    · rw [List.mem_singleton.mp hs]; exact ha, fun s hs => by
    rcases List.mem_append.mp hs with hs | hs
    · exact E.one s hs
    · rw [List.mem_singleton.mp hs]; exact ho, List.pairwise_append.mpr ⟨E.low, List.pairwise_singleton .., fun u hu v hv => by
    rw [List.mem_singleton.mp hv]
    exact hz u hu⟩⟩
end Dn

set_option Elab.async false
set_option linter.all false
set_option maxRecDepth 100000
namespace Dn
open PySem PySem.Spec L2
open Rep (rep)
open ORep (orep)
section
variable {c : Ct} {env : List Slot} {e i : Expr} {α : Type} [Rep α]
end
structure Gh
instance : Rep Gh := ⟨fun _ _ _ _ => True, fun _ h => h⟩
section
variable {K : PySem.W.Frag} {B H : Hp} {σ : St} {env : List Slot}
end
def spL (K : PySem.W.Frag) {α δ Q : Type} [Rep α] [Pk Q] (φ : δ → PySem.W.Frag → Hp → Addr → HO → Prop) (f : α → δ → Q → Option δ) : Sp := fun vs H Qq _ => ∃ (x : α) (d d' : δ) (q : Q) (B : Hp) (a : Addr) (o : HO) (v1 : V) (vs2 : List V), vs = v1 :: .ref a :: vs2 ∧ rep K B v1 x ∧ Args K B vs2 (Pk.sl q) ∧ Le B H ∧ H a = some o ∧ B a = none ∧ φ d K B a o ∧ f x d q = some d' ∧
  ∀ o' B' H', Le B B' → Le B' H' → (∀ u w, u ≠ a → H u = some w → H' u = some w) → (∀ u, B u = none → ¬ H u = none → B' u = none) → H' a = some o' → B' a = none → φ d' K B' a o' → Qq .non H'
abbrev Slot.at_ {δ : Type} (φ : δ → PySem.W.Frag → Hp → Addr → HO → Prop) (hm : ∀ d K B B' a o, Le B B' → φ d K B a o → φ d K B' a o) (g : Addr) (d : δ) : Slot := .obj (fun K B a o => a = g ∧ φ d K B a o) (fun K B B' a o l h => ⟨h.1, hm d K B B' a o l h.2⟩)
section
variable {P : Program} {w : World} {K : PySem.W.Frag} {mg : Str → Option Value} {base : Heap}
structure GdL (P : Program) (w : World) (K : PySem.W.Frag) (mg : Str → Option Value) (base : Heap) (j : Nat) (x : Str) {α δ Z : Type} [Rep α] [Pk Z] (φ : δ → PySem.W.Frag → Hp → Addr → HO → Prop) (f : α → δ → Z → Option δ) : Prop where
  ok : ∃ (fa : Addr) (fd : FuncData) (ps : List Str), FnOk P w K mg base CX0 j fa fd ps (spL K φ f) ∧ mg x = some (.ref fa) ∧ PySem.W.keepIn K (.ref fa) = true ∧ Binds K fd ps []
end
structure DfL (c : Ct) (x : Str) {α δ Z : Type} [Rep α] [Pk Z] (φ : δ → PySem.W.Frag → Hp → Addr → HO → Prop) (f : α → δ → Z → Option δ) : Prop where
  ok : ∃ (j : Nat) (fa : Addr) (fd : FuncData) (ps : List Str), FnOk c.P c.w c.K c.mg c.base CX0 j fa fd ps (spL c.K φ f) ∧ j ≤ c.k ∧ c.mg x = some (.ref fa) ∧ PySem.W.keepIn c.K (.ref fa) = true ∧ Binds c.K fd ps []
theorem GdL.df {P : Program} {w : World} {K : PySem.W.Frag} {mg : Str → Option Value} {base : Heap} {j : Nat} {x : Str} {α δ Z : Type} [Rep α] [Pk Z] {φ : δ → PySem.W.Frag → Hp → Addr → HO → Prop} {f : α → δ → Z → Option δ} (G : GdL P w K mg base j x φ f) {c : Ct} (hP : c.P = P := by rfl) (hw : c.w = w := by rfl) (hK : c.K = K := by rfl) (hmg : c.mg = mg := by rfl) (hb : c.base = base := by rfl) (hj : j ≤ c.k := by exact Nat.le_of_ble_eq_true rfl) : DfL c x φ f := by
  obtain ⟨P', w', K', mg', base', k, N, sc, fn, df⟩ := c
  cases hP; cases hw; cases hK; cases hmg; cases hb
  obtain ⟨fa, fd, ps, h1, h2, h3, h4⟩ := G.ok
  exact ⟨j, fa, fd, ps, h1, hj, h2, h3, h4⟩
section
variable {S L R α δ Z : Type} [Rep R] [Rep α] [Pk Z] {c : Ct} {env : List Slot} {rest : List Stmt} {e1 : Expr} {es : List Expr} {mk : S → List Slot} {lk : L → List Slot}
end
section
variable {S L R α β : Type} [Rep R] [Rep α] [Rep β] {c : Ct} {env : List Slot} {rest : List Stmt} {e i o f : Expr} {mk : S → List Slot} {lk : L → List Slot}
end
end Dn

set_option Elab.async false
set_option linter.all false
set_option maxRecDepth 100000
namespace Dn
open PySem PySem.Spec L2
open Rep (rep)
open ORep (orep)
section
variable {c : Ct} {env : List Slot} {a b : Expr}
theorem de_band {pos : Pos} {ma mb : Option Int} (ha : De c env a ma) (hb : De c env b mb) : De c env (.BinOp a .BitAnd b pos) (ma.bind fun x => mb.bind fun y => some (Builtin.bitAnd x y)) := de_op (fun _ _ => op_and) ops_I0 ha hb
end
def thawC (B : Hp) (cs : List Addr) : Hp := fun u => if u ∈ cs then none else B u
def NT (o : HO) : Prop := ∀ vs, o ≠ .tup vs ∧ ∀ p, o ≠ .frz p (.tup vs)
class ThawC (α : Type) [Rep α] : Prop where
  thaw : ∀ {K : PySem.W.Frag} {B : Hp} {cs : List Addr} {v : V} {x : α}, (∀ c ∈ cs, ∃ o, B c = some o ∧ NT o) → rep K B v x → rep K (thawC B cs) v x
instance : ThawC Int := ⟨fun _ h => h⟩
instance : ThawC Bool := ⟨fun _ h => h⟩
instance : ThawC Str := ⟨fun _ h => h⟩
theorem SqT_thawC {K : PySem.W.Frag} {B : Hp} {cs : List Addr} {b : Addr} {ws : List V} (h : ∀ c ∈ cs, ∃ o, B c = some o ∧ NT o) (s : SqT K B b ws) : SqT K (thawC B cs) b ws := by
  have key : ∀ {o : HO}, B b = some o → ¬ NT o → thawC B cs b = some o := fun {o} e n => by
    have z : b ∉ cs := fun k => by
      obtain ⟨o', e', n'⟩ := h b k
      rw [e] at e'
      cases e'
      exact n n'
    show (if b ∈ cs then none else B b) = some o
    rw [if_neg z]
    exact e
  rcases s with (s | ⟨o, s⟩) | s
  · exact .inl (.inl (key s fun n => (n ws).1 rfl))
  · exact .inl (.inr ⟨o, key s fun n => (n ws).2 o rfl⟩)
  · exact .inr s
theorem reps_thawC {α : Type} [Rep α] [ThawC α] {K : PySem.W.Frag} {B : Hp} {cs : List Addr} (h : ∀ c ∈ cs, ∃ o, B c = some o ∧ NT o) {vs : List V} {xs : List α} (r : Reps K B vs xs) : Reps K (thawC B cs) vs xs := by
  induction r with
  | nil => exact .nil
  | cons p _ ih => exact .cons (ThawC.thaw h p) ih
instance {α : Type} [Rep α] [ThawC α] : ThawC (Tup α) := ⟨fun h r => by
  obtain ⟨b, vs, rfl, s, r⟩ := r
  exact ⟨b, vs, rfl, SqT_thawC h s, reps_thawC h r⟩⟩
instance {α β : Type} [Rep α] [Rep β] [ThawC α] [ThawC β] : ThawC (α × β) := ⟨fun h r => by
  obtain ⟨b, v1, v2, rfl, s, r1, r2⟩ := r
  exact ⟨b, v1, v2, rfl, SqT_thawC h s, ThawC.thaw h r1, ThawC.thaw h r2⟩⟩
theorem grow_thawC {B B1 H B' H' : Hp} {cs : List Addr} (b1 : ∀ c ∈ cs, B c = none) (b2 : ∀ c, c ∉ cs → B1 c = B c) (hc : ∀ c ∈ cs, ¬ H c = none) (g : Grow B1 H B' H') : Grow B H (thawC B' cs) H' :=
  ⟨fun u x z => by
    have n : u ∉ cs := fun k => by rw [b1 u k] at z; cases z
    show (if u ∈ cs then none else B' u) = some x
    rw [if_neg n]
    exact g.b u x (by rw [b2 u n]; exact z), fun u x z => by
    have z : (if u ∈ cs then none else B' u) = some x := z
    split at z
    · cases z
    · exact g.bh u x z, g.h, fun u z n => by
    show (if u ∈ cs then none else B' u) = none
    by_cases k : u ∈ cs
    · rw [if_pos k]
    · rw [if_neg k]
      exact g.f u (by rw [b2 u k]; exact z) n⟩
structure ElG (E : Addr) (Sg : Type) where
  space : Sg
  many : Int
  columns : List (List Int)
  standing : List (Tup Int)
  zeros : List (Tup ((Tup Int) × Int))
  lines : List Int
  pivots : List Int
section
variable {E : Addr} {Sg : Type} [Rep Sg]
abbrev elFs (u1 : V) (m : Int) (u3 : V) (a4 a5 a6 a7 : Addr) : List (Str × V) := [("space", u1), ("many", .int m), ("columns", u3), ("standing_powers", .ref a4), ("zeros", .ref a5), ("lines", .ref a6), ("pivots", .ref a7)]
instance : Rep (ElG E Sg) := ⟨fun K B v x => ∃ a dx u1 u3 a4 a5 a6 a7, v = .ref a ∧ B a = some (.ins E dx (elFs u1 x.many u3 a4 a5 a6 a7)) ∧ rep K B u1 x.space ∧ rep K B u3 x.columns ∧ rep K B (.ref a4) x.standing ∧ rep K B (.ref a5) x.zeros ∧ rep K B (.ref a6) x.lines ∧ rep K B (.ref a7) x.pivots,
  fun e ⟨a, dx, u1, u3, a4, a5, a6, a7, h, s, r1, r3, r4, r5, r6, r7⟩ => ⟨a, dx, u1, u3, a4, a5, a6, a7, h, e a _ s, Rep.mono e r1, Rep.mono e r3, Rep.mono e r4, Rep.mono e r5, Rep.mono e r6, Rep.mono e r7⟩⟩
structure ElAt (K : PySem.W.Frag) (B H : Hp) (y : Addr) (dx : Addr) (u1 u3 : V) (a4 a5 a6 a7 : Addr) (v4 v5 v6 v7 : List V) (x : ElG E Sg) : Prop where
  obj : H y = some (.ins E dx (elFs u1 x.many u3 a4 a5 a6 a7))
  nd : [y, a4, a5, a6, a7].Nodup
  r1 : rep K B u1 x.space
  r3 : rep K B u3 x.columns
  h4 : H a4 = some (.lst v4)
  r4 : Reps K B v4 x.standing
  h5 : H a5 = some (.lst v5)
  r5 : Reps K B v5 x.zeros
  h6 : H a6 = some (.lst v6)
  r6 : Reps K B v6 x.lines
  h7 : H a7 = some (.lst v7)
  r7 : Reps K B v7 x.pivots
def elψ (y : Addr) (x : ElG E Sg) : PySem.W.Frag → Hp → Hp → Addr → List Addr → Prop := fun K B H a cs => a = y ∧ ∃ dx u1 u3 a4 a5 a6 a7 v4 v5 v6 v7, cs = [y, a4, a5, a6, a7] ∧ ElAt K B H y dx u1 u3 a4 a5 a6 a7 v4 v5 v6 v7 x
theorem elψ_mono (y : Addr) (x : ElG E Sg) : ∀ K B B' H H' a cs, Le B B' → (∀ c ∈ cs, H' c = H c) → elψ y x K B H a cs → elψ y x K B' H' a cs := fun K B B' H H' a cs l e ⟨e0, dx, u1, u3, a4, a5, a6, a7, v4, v5, v6, v7, hc, A⟩ => by
  subst hc
  exact ⟨e0, dx, u1, u3, a4, a5, a6, a7, v4, v5, v6, v7, rfl, ⟨by rw [e y (by simp)]; exact A.obj, A.nd, Rep.mono l A.r1, Rep.mono l A.r3, by rw [e a4 (by simp)]; exact A.h4, A.r4.mono l, by rw [e a5 (by simp)]; exact A.h5, A.r5.mono l, by rw [e a6 (by simp)]; exact A.h6, A.r6.mono l, by rw [e a7 (by simp)]; exact A.h7, A.r7.mono l⟩⟩
abbrev Slot.el (y : Addr) (x : ElG E Sg) : Slot := .deep (elψ y x) (elψ_mono y x)
theorem elψ_rep {y : Addr} {x : ElG E Sg} {K : PySem.W.Frag} {B B1 H : Hp} {a : Addr} {cs : List Addr} (h : elψ y x K B H a cs) (l : Le B B1) (e : ∀ c ∈ cs, B1 c = H c) : rep K B1 (.ref a) x := by
  obtain ⟨rfl, dx, u1, u3, a4, a5, a6, a7, v4, v5, v6, v7, rfl, A⟩ := h
  exact ⟨_, dx, u1, u3, a4, a5, a6, a7, rfl, by rw [e _ (by simp)]; exact A.obj, Rep.mono l A.r1, Rep.mono l A.r3, ⟨a4, v4, rfl, SqL.of (by rw [e _ (by simp)]; exact A.h4), A.r4.mono l⟩, ⟨a5, v5, rfl, SqL.of (by rw [e _ (by simp)]; exact A.h5), A.r5.mono l⟩, ⟨a6, v6, rfl, SqL.of (by rw [e _ (by simp)]; exact A.h6), A.r6.mono l⟩, ⟨a7, v7, rfl, SqL.of (by rw [e _ (by simp)]; exact A.h7), A.r7.mono l⟩⟩
theorem elψ_nt {y : Addr} {x : ElG E Sg} {K : PySem.W.Frag} {B H : Hp} {a : Addr} {cs : List Addr} (h : elψ y x K B H a cs) : ∀ c ∈ cs, ∃ o, H c = some o ∧ NT o := fun c hc => by
  obtain ⟨rfl, dx, u1, u3, a4, a5, a6, a7, v4, v5, v6, v7, rfl, A⟩ := h
  have nl : ∀ vs : List V, NT (.lst vs) := fun vs ws => ⟨(fun e => nomatch e), (fun p e => nomatch e)⟩
  have ni : ∀ (C dx : Addr) (fs : List (Str × V)), NT (.ins C dx fs) := fun _ _ _ ws => ⟨(fun e => nomatch e), (fun p e => nomatch e)⟩
  simp only [List.mem_cons, List.not_mem_nil, or_false] at hc
  rcases hc with rfl | rfl | rfl | rfl | rfl
  · exact ⟨_, A.obj, ni _ _ _⟩
  · exact ⟨_, A.h4, nl _⟩
  · exact ⟨_, A.h5, nl _⟩
  · exact ⟨_, A.h6, nl _⟩
  · exact ⟨_, A.h7, nl _⟩
end
section
variable {K : PySem.W.Frag} {B0 H0 B H : Hp} {σ : St} {env : List Slot}
structure Lent (K : PySem.W.Frag) (B B1 H : Hp) (σ : St) (env1 : List Slot) (cs : List Addr) : Prop where
  en : Env K B1 H σ env1
  le : Le B B1
  b1 : ∀ c ∈ cs, B1 c = H c
  b0 : ∀ c ∈ cs, B c = none
  b2 : ∀ c, c ∉ cs → B1 c = B c
  hc : ∀ c ∈ cs, ¬ H c = none
theorem Lent.grow {B1 B2 H2 : Hp} {env1 : List Slot} {cs : List Addr} (L : Lent K B B1 H σ env1 cs) (g : Grow B1 H B2 H2) : Grow B H (thawC B2 cs) H2 := grow_thawC L.b0 L.b2 L.hc g
theorem StOk.lent {y : Addr} {E : Addr} {Sg : Type} [Rep Sg] {x : ElG E Sg} (O : StOk K B0 H0 B H σ env) (i : Nat) (hi : env[i]? = some (.el y x)) : ∃ B1 cs, Lent K B B1 H σ (env.set i (.val x)) cs ∧ (∀ B2, Le B1 B2 → ∀ c ∈ cs, ∃ o, B2 c = some o ∧ NT o) ∧ σ[i]? = some (some (.ref y)) ∧ elψ y x K B H y cs := by
  have hl : i < env.length := (List.getElem?_eq_some_iff.mp hi).1
  obtain ⟨a, cs, r1, r2, r3, A⟩ := O.rd i _ _ hi
  obtain rfl : a = y := A.1
  obtain ⟨B1, hB1⟩ : ∃ B1 : Hp, B1 = fun c => if c ∈ cs then H c else B c := ⟨_, rfl⟩
  have b1 : ∀ c, c ∈ cs → B1 c = H c := fun c h => by rw [hB1]; exact if_pos h
  have b2 : ∀ c, c ∉ cs → B1 c = B c := fun c h => by rw [hB1]; exact if_neg h
  clear hB1
  have l1 : Le B B1 := fun c o z => by
    rw [b2 c fun m => by rw [(r2 c m).2.1] at z; cases z]
    exact z
  have l2 : Le B1 H := fun c o z => by
    by_cases m : c ∈ cs
    · rw [b1 c m] at z
      exact z
    · rw [b2 c m] at z
      exact O.en.bh c o z
  refine ⟨B1, cs, ⟨⟨l2, by rw [List.length_set]; exact O.en.len, fun j s h => ?_, fun j k s t h1 h2 o1 o2 e => ?_⟩, l1, b1, fun c hc => (r2 c hc).2.1, b2, fun c hc => (r2 c hc).1⟩, fun B2 l c hc => ?_, r1, A⟩
  · by_cases q : i = j
    · subst q
      rw [List.getElem?_set_self hl] at h
      cases h
      exact ⟨.ref a, r1, elψ_rep A l1 b1⟩
    · rw [List.getElem?_set_ne q] at h
      have z := O.en.at_ j s h
      cases s with
      | any => trivial
      | @val α' i' y =>
        obtain ⟨u, f1, f2⟩ := z
        exact ⟨u, f1, Rep.mono l1 f2⟩
      | obj φ hm =>
        obtain ⟨b, ob, f1, f2, f3, f4⟩ := z
        refine ⟨b, ob, f1, f2, ?_, hm _ _ _ _ _ l1 f4⟩
        rw [b2 b (r3 j _ b h rfl f1)]
        exact f3
      | deep ψ hm => trivial
  · have back : ∀ (j : Nat) (s : Slot), (env.set i (.val x))[j]? = some s → isOwn s = true → env[j]? = some s := fun j s h o => by
      by_cases q : i = j
      · subst q
        rw [List.getElem?_set_self hl] at h
        cases h
        cases o
      · rw [List.getElem?_set_ne q] at h
        exact h
    exact O.en.ap j k s t (back j s h1 o1) (back k t h2 o2) o1 o2 e
  · obtain ⟨o, e, n⟩ := elψ_nt A c hc
    exact ⟨o, l c o (by rw [b1 c hc]; exact e), n⟩
end
end Dn

set_option Elab.async false
set_option linter.all false
set_option maxRecDepth 100000
namespace Dn
open PySem PySem.Spec L2
open Rep (rep)
open ORep (orep)
section
variable {E : Addr} {Sg : Type} [Rep Sg]
structure ElLens (E : Addr) (Sg : Type) [Rep Sg] {α : Type} [Rep α] (f : Str) (get : ElG E Sg → List α) (put : ElG E Sg → List α → ElG E Sg) : Prop where
  ok : ∀ (K : PySem.W.Frag) (B H : Hp) (y : Addr) (cs : List Addr) (x : ElG E Sg), elψ y x K B H y cs → ∃ dx fs a vs, H y = some (.ins E dx fs) ∧ fs.lookup f = some (.ref a) ∧ H a = some (.lst vs) ∧ Reps K B vs (get x) ∧ a ∈ cs ∧ ∀ vs' xs', Reps K B vs' xs' → elψ y (put x xs') K B (upd H a (.lst vs')) y cs
variable {K : PySem.W.Frag} {B0 H0 B H : Hp} {σ : St} {env : List Slot}
end
section
variable {S T L β J : Type} [Rep β] {E : Addr} {Sg : Type} [Rep Sg]
def PostM (y : Addr) (K : PySem.W.Frag) (B0 H0 Bs : Hp) (mk : S → List Slot) (lk : L → List Slot) (D : Ends) (m : Fl S L (β × ElG E Sg)) : Prop := match m with
  | .err => False
  | .nx s => ∀ B H σ, Le Bs B → StOk K B0 H0 B H σ (mk s) → D.nx σ H
  | .rt r => ∀ v B H cs, Grow B0 H0 B H → (∀ c ∈ cs, ¬ H c = none ∧ B c = none ∧ H0 c = none) → elψ y r.2 K B H y cs → rep K B v r.1 → D.rt v H
  | .bk s => ∀ B H σ, Le Bs B → StOk K B0 H0 B H σ (lk s) → D.bk σ H
  | .ct s => ∀ B H σ, Le Bs B → StOk K B0 H0 B H σ (lk s) → D.ct σ H
structure DeSM (y : Addr) (c : Ct) (env : List Slot) (b : List Stmt) (mk : S → List Slot) (lk : L → List Slot) (m : Fl S L (β × ElG E Sg)) : Prop where
  ok : ∀ (B0 H0 B H : Hp) (σ : St), StOk c.K B0 H0 B H σ env → ∀ D : Ends, PostM y c.K B0 H0 B mk lk D m → cS c b D σ H
instance {y : Addr} {c : Ct} {env : List Slot} {b : List Stmt} {mk : S → List Slot} {lk : L → List Slot} {m : Fl S L (β × ElG E Sg)} : CoeFun (DeSM y c env b mk lk m) (fun _ => ∀ (B0 H0 B H : Hp) (σ : St), StOk c.K B0 H0 B H σ env → ∀ D : Ends, PostM y c.K B0 H0 B mk lk D m → cS c b D σ H) := ⟨DeSM.ok⟩
variable {y : Addr} {c : Ct} {env env' : List Slot} {st : Stmt} {rest b b' : List Stmt} {e a d : Expr} {mk : S → List Slot} {lk : L → List Slot}
theorem PostM.mono {K : PySem.W.Frag} {B0 H0 B1 B2 : Hp} {D : Ends} {m : Fl S L (β × ElG E Sg)} (l : Le B1 B2) (P : PostM y K B0 H0 B1 mk lk D m) : PostM y K B0 H0 B2 mk lk D m := by
  cases m with
  | err => exact P
  | nx s => exact fun B H σ k => P B H σ (l.trans k)
  | rt r => exact P
  | bk s => exact fun B H σ k => P B H σ (l.trans k)
  | ct s => exact fun B H σ k => P B H σ (l.trans k)
end
end Dn

set_option Elab.async false
set_option linter.all false
set_option maxRecDepth 100000
namespace Dn
open PySem PySem.Spec L2
open Rep (rep)
open ORep (orep)
section
variable {K : PySem.W.Frag} {B0 H0 B H B' H' : Hp} {σ : St} {env : List Slot} {E : Addr} {Sg : Type} [Rep Sg]
end
def spM (K : PySem.W.Frag) {E : Addr} {Sg β Z : Type} [Rep Sg] [Rep β] [Pk Z] (f : ElG E Sg → Z → Option (β × ElG E Sg)) : Sp := fun vs H Q _ => ∃ (x : ElG E Sg) (p : Z) (r : β × ElG E Sg) (B : Hp) (y : Addr) (cs : List Addr) (ws : List V), vs = .ref y :: ws ∧ f x p = some r ∧ Le B H ∧ Args K B ws (Pk.sl p) ∧ elψ y x K B H y cs ∧ (∀ c ∈ cs, B c = none) ∧
  ∀ v B' H' cs', Grow B (thawC H cs) B' H' → (∀ c ∈ cs', ¬ H' c = none ∧ B' c = none ∧ thawC H cs c = none) → elψ y r.2 K B' H' y cs' → rep K B' v r.1 → Q v H'
section
variable {P : Program} {w : World} {K : PySem.W.Frag} {mg : Str → Option Value} {base : Heap} {E : Addr} {Sg : Type} [Rep Sg]
end
structure GmM (P : Program) (w : World) (K : PySem.W.Frag) (mg : Str → Option Value) (base : Heap) (j : Nat) (E : Addr) (Sg : Type) [Rep Sg] (x : Str) {β Z : Type} [Rep β] [Pk Z] (f : ElG E Sg → Z → Option (β × ElG E Sg)) : Prop where
  ok : ∃ (fa : Addr) (fd : FuncData) (ps : List Str), FnOk P w K mg base CX0 j fa fd ps (spM K f) ∧ Cls K E ∧ Meth K E x fa ∧ Binds K fd ps []
structure MtM (c : Ct) (E : Addr) (Sg : Type) [Rep Sg] (x : Str) {β Z : Type} [Rep β] [Pk Z] (f : ElG E Sg → Z → Option (β × ElG E Sg)) : Prop where
  ok : ∃ (j : Nat) (fa : Addr) (fd : FuncData) (ps : List Str), FnOk c.P c.w c.K c.mg c.base CX0 j fa fd ps (spM c.K f) ∧ j ≤ c.k ∧ Cls c.K E ∧ Meth c.K E x fa ∧ Binds c.K fd ps []
section
variable {P : Program} {w : World} {K : PySem.W.Frag} {mg : Str → Option Value} {base : Heap} {E : Addr} {Sg : Type} [Rep Sg]
theorem GmM.mt {j : Nat} {x : Str} {β Z : Type} [Rep β] [Pk Z] {f : ElG E Sg → Z → Option (β × ElG E Sg)} (G : GmM P w K mg base j E Sg x f) {c : Ct} (hP : c.P = P := by rfl) (hw : c.w = w := by rfl) (hK : c.K = K := by rfl) (hmg : c.mg = mg := by rfl) (hb : c.base = base := by rfl) (hj : j ≤ c.k := by exact Nat.le_of_ble_eq_true rfl) : MtM c E Sg x f := by
  obtain ⟨P', w', K', mg', base', k, N, sc, fn, df⟩ := c
  cases hP; cases hw; cases hK; cases hmg; cases hb
  obtain ⟨fa, fd, ps, h1, h2, h3, h4⟩ := G.ok
  exact ⟨j, fa, fd, ps, h1, hj, h2, h3, h4⟩
end
section
variable {S L R J α β γ : Type} [Rep R] [Rep α] [Rep β] [Rep γ] {c : Ct} {env : List Slot} {st : Stmt} {rest b b' : List Stmt} {e e1 e2 : Expr} {mk : S → List Slot} {lk : L → List Slot} {jk : J → List Slot} {E : Addr} {Sg : Type} [Rep Sg] {y : Addr}
end
end Dn

set_option Elab.async false
set_option linter.all false
set_option maxRecDepth 100000
namespace Dn
open PySem PySem.Spec L2
open Rep (rep)
open ORep (orep)
section
variable {K : PySem.W.Frag} {B0 H0 B H B' H' : Hp} {σ : St} {env : List Slot} {E : Addr} {Sg : Type} [Rep Sg]
structure ElSt (K : PySem.W.Frag) (E : Addr) (B H : Hp) (y dx : Addr) (fs : List (Str × V)) (as : List Addr) (B' H' : Hp) : Prop where
  g : Grow B (thawC H [y]) B' H'
  nb : B' y = none
  ob : H' y = some (.ins E dx fs)
  ls : ∀ a ∈ as, H' a = some (.lst []) ∧ B' a = none ∧ H a = none
  nd : (y :: as).Nodup
end
section
variable {S L R : Type} [Rep R] {c : Ct} {env : List Slot} {rest : List Stmt} {e : Expr} {mk : S → List Slot} {lk : L → List Slot} {E : Addr} {Sg α : Type} [Rep Sg] [Rep α]
end

def spIE (K : PySem.W.Frag) (E : Addr) {Sg Q : Type} [Rep Sg] [Pk Q] (f : Q → Option (ElG E Sg)) : Sp := fun vs H Qq _ => ∃ (p : Q) (r : ElG E Sg) (B : Hp) (y dx : Addr) (ws : List V), vs = .ref y :: ws ∧ f p = some r ∧ Le B H ∧ Args K B ws (Pk.sl p) ∧ H y = some (.ins E dx []) ∧ B y = none ∧
  ∀ B' H' cs, Grow B (thawC H [y]) B' H' → (∀ c ∈ cs, ¬ H' c = none ∧ B' c = none ∧ thawC H [y] c = none) → elψ y r K B' H' y cs → Qq .non H'
structure MdE (c : Ct) (x : Str) (E : Addr) {Sg Q : Type} [Rep Sg] [Pk Q] (f : Q → Option (ElG E Sg)) : Prop where
  ok : ∃ (j : Nat) (fa : Addr) (fd : FuncData) (ps : List Str), FnOk c.P c.w c.K c.mg c.base CX0 j fa fd ps (spIE c.K E f) ∧ j + 1 ≤ c.k ∧ c.mg x = some (.ref E) ∧ Mk c.K E fa ∧ Binds c.K fd ps []
structure GkE (P : Program) (w : World) (K : PySem.W.Frag) (mg : Str → Option Value) (base : Heap) (j : Nat) (x : Str) (E : Addr) {Sg Q : Type} [Rep Sg] [Pk Q] (f : Q → Option (ElG E Sg)) : Prop where
  ok : ∃ (fa : Addr) (fd : FuncData) (ps : List Str), FnOk P w K mg base CX0 j fa fd ps (spIE K E f) ∧ mg x = some (.ref E) ∧ Mk K E fa ∧ Binds K fd ps []
theorem GkE.md {P : Program} {w : World} {K : PySem.W.Frag} {mg : Str → Option Value} {base : Heap} {j : Nat} {x : Str} {E : Addr} {Sg Q : Type} [Rep Sg] [Pk Q] {f : Q → Option (ElG E Sg)} (G : GkE P w K mg base j x E f) {c : Ct} (hP : c.P = P := by rfl) (hw : c.w = w := by rfl) (hK : c.K = K := by rfl) (hmg : c.mg = mg := by rfl) (hb : c.base = base := by rfl) (hj : j + 1 ≤ c.k := by exact Nat.le_of_ble_eq_true rfl) : MdE c x E f := by
  obtain ⟨P', w', K', mg', base', k, N, sc, fn, df⟩ := c
  cases hP; cases hw; cases hK; cases hmg; cases hb
  obtain ⟨fa, fd, ps, h1, h2, h3, h4⟩ := G.ok
  exact ⟨j, fa, fd, ps, h1, hj, h2, h3, h4⟩
section
variable {c : Ct} {env : List Slot} {e : Expr} {es : List Expr} {E : Addr} {Sg : Type} [Rep Sg]
end
section
variable {c : Ct} {env : List Slot} {e o : Expr} {α β γ R : Type} [Rep α] [Rep β] [Rep γ]
end
end Dn

set_option Elab.async false
set_option linter.all false
set_option maxRecDepth 100000
namespace Dn
open PySem PySem.Spec L2
open Rep (rep)
open ORep (orep)
section
variable {c : Ct} {env : List Slot} {e : Expr} {es : List Expr} {E : Addr} {Sg α : Type} [Rep Sg] [Rep α]
end
end Dn

set_option Elab.async false
set_option linter.all false
set_option maxRecDepth 100000
namespace Dn
open PySem PySem.Spec L2
open Rep (rep)
open ORep (orep)
section
variable {S L R : Type} [Rep R] {c : Ct} {env : List Slot} {rest : List Stmt} {e i : Expr} {mk : S → List Slot} {lk : L → List Slot}
end
end Dn

set_option Elab.async false
set_option linter.all false
set_option maxRecDepth 100000
namespace Dn
open PySem PySem.Spec L2
open Rep (rep)
open ORep (orep)
section
variable {α β : Type}
instance [Dat α] [Dat β] : Dat (Duo α β) where
  toD := fun x => .list [Dat.toD x.x1, Dat.toD x.x2]
  dp := fun h => by
    obtain ⟨a, v1, v2, rfl, s, r1, r2⟩ := h
    exact .lst s (.cons (Dat.dp r1) (.cons (Dat.dp r2) .nil))
  dep := max (Dat.dep α) (Dat.dep β) + 1
  hdep := fun x => by
    have h1 := Dat.hdep x.x1
    have h2 := Dat.hdep x.x2
    simp only [PyData.depth, PyData.depthAll]
    omega
  dec := fun x y => by
    letI := Dat.dec (α := α); letI := Dat.dec (α := β)
    exact decidable_of_iff (x.x1 = y.x1 ∧ x.x2 = y.x2) ⟨fun ⟨a, b⟩ => by cases x; cases y; cases a; cases b; rfl, fun h => by rw [h]; exact ⟨rfl, rfl⟩⟩
  eqv := fun x y => by
    obtain ⟨x1, x2⟩ := x
    obtain ⟨y1, y2⟩ := y
    rw [PyData.eqv, PyData.eqvAll, PyData.eqvAll, PyData.eqvAll, Dat.eqv, Dat.eqv]
    letI := Dat.dec (α := α)
    letI := Dat.dec (α := β)
    by_cases h : x1 = y1 <;> by_cases g : x2 = y2 <;> simp [h, g]
end
section
variable {c : Ct} {env : List Slot} {a e1 e2 : Expr} {α β : Type} [Rep α] [Rep β]
end
end Dn

set_option Elab.async false
set_option linter.all false
set_option maxRecDepth 100000
namespace Dn
open PySem PySem.Spec L2 PyProof.Rows
open Rep (rep)
section
variable {c : Ct} {env : List Slot} {a : Expr}
end
end Dn

set_option Elab.async false
set_option linter.all false
set_option maxRecDepth 100000
namespace Dn
open PySem PySem.Spec L2
open Rep (rep)
theorem de_make3 {c : Ct} {env : List Slot} {e1 e2 e3 : Expr} {α β γ R : Type} [Rep α] [Rep β] [Rep γ] [Rep R] {C : Addr} {fl : R → List (Str × Slot)} {f : α × β × γ × Unit → Option R} {x : Str} {p pos : Pos} {m1 : Option α} {m2 : Option β} {m3 : Option γ} (D : Md c x C fl f) (hr : ∀ (B : Hp) (a dx : Addr) (fs : List (Str × V)) (r : R), B a = some (.ins C dx fs) → Pr2 (FldOk c.K B) fs (fl r) → rep c.K B (.ref a) r)
    (h1 : De c env e1 m1) (h2 : De c env e2 m2) (h3 : De c env e3 m3) (hg : Gv c x := by rfl) (hdb : (x == ("__debug__" : Str)) = false := by decide) (he : ∀ env, starEach [e1, e2, e3] env = (false, eval e1 env) :: starEach [e2, e3] env := by intro _; rfl) (he2 : ∀ env, starEach [e2, e3] env = (false, eval e2 env) :: starEach [e3] env := by intro _; rfl) (he3 : ∀ env, starEach [e3] env = (false, eval e3 env) :: starEach [] env := by intro _; rfl) :
    De c env (.Call (.Name x p) [e1, e2, e3] [] pos) (m1.bind fun a1 => m2.bind fun a2 => m3.bind fun a3 => f (a1, a2, a3, ())) :=
  (de_make D hr (dp_cons h1 (dp_cons h2 (dp_cons h3 dp_nil he3) he2) he) hg hdb he (fun _ => by rw [he2, he3]; rfl)).of bind3
end Dn
namespace L2
open PySem PySem.Spec Dn PyProof.Rows
section
variable {X : Cx}
end
end L2
namespace Dn
open PySem PySem.Spec L2
open Rep (rep)
section
variable {c : Ct} {env : List Slot} {a : Expr}
end
section
variable {c : Ct} {env : List Slot} {α β γ δ ε ζ R : Type} [Rep α] [Rep β] [Rep γ] [Rep δ] [Rep ε] [Rep ζ] [Rep R]
end
end Dn

set_option Elab.async false
set_option linter.all false
set_option maxRecDepth 100000
set_option maxHeartbeats 1000000
namespace L2
open PySem PySem.Spec Dn
section
variable {X : Cx} {pins : List (Addr × Obj)} {σ : St} {H : Hp} {s : Shared} {a : Addr} {o : Obj} {xs : List Ent}
end
section
end
end L2
namespace Dn
open PySem PySem.Spec L2
open Rep (rep)
section
variable {α β : Type} [Rep α] [Rep β] {c : Ct} {env : List Slot} {o i e : Expr}
end
section
variable {S L R : Type} [Rep R] {c : Ct} {env : List Slot} {b : List Stmt} {mk : S → List Slot} {lk : L → List Slot} {α : Type} [Rep α]
end
end Dn
namespace Dn
section
open PySem PySem.Spec L2
open PySem.W (KdlSrc kdl_hint_dict kdu_collect)
open PyProof.Rows (seqObj)
end
section
open PySem PySem.Spec L2
open Rep (rep)
variable {α : Type} [Rep α] {c : Ct} {env : List Slot} {a : Expr}
end
end Dn

set_option Elab.async false
set_option linter.all false
set_option maxRecDepth 100000
namespace Dn
open PySem PySem.Spec L2
open Rep (rep)
open ORep (orep)
section
variable {α β γ δ ε : Type}
instance [Dat γ] [Dat δ] [Dat ε] : Dat (Trp γ δ ε) where
  toD := fun x => .tuple [Dat.toD x.x1, Dat.toD x.x2, Dat.toD x.x3]
  dp := fun h => by
    obtain ⟨a, v1, v2, v3, rfl, s, r1, r2, r3⟩ := h
    exact .tup s (.cons (Dat.dp r1) (.cons (Dat.dp r2) (.cons (Dat.dp r3) .nil)))
  dep := max (Dat.dep γ) (max (Dat.dep δ) (Dat.dep ε)) + 1
  hdep := fun x => by
    have h1 := Dat.hdep x.x1
    have h2 := Dat.hdep x.x2
    have h3 := Dat.hdep x.x3
    simp only [PyData.depth, PyData.depthAll]
    omega
  dec := fun x y => by
    letI := Dat.dec (α := γ); letI := Dat.dec (α := δ); letI := Dat.dec (α := ε)
    exact decidable_of_iff (x.x1 = y.x1 ∧ x.x2 = y.x2 ∧ x.x3 = y.x3) ⟨fun ⟨a, b, c⟩ => by cases x; cases y; cases a; cases b; cases c; rfl, fun h => by rw [h]; exact ⟨rfl, rfl, rfl⟩⟩
  eqv := fun x y => by
    obtain ⟨x1, x2, x3⟩ := x
    obtain ⟨y1, y2, y3⟩ := y
    rw [PyData.eqv, PyData.eqvAll, PyData.eqvAll, PyData.eqvAll, PyData.eqvAll, Dat.eqv, Dat.eqv, Dat.eqv]
    letI := Dat.dec (α := γ)
    letI := Dat.dec (α := δ)
    letI := Dat.dec (α := ε)
    by_cases h : x1 = y1 <;> by_cases g : x2 = y2 <;> by_cases k : x3 = y3 <;> simp [h, g, k]
instance [Dat α] [Dat β] [Dat γ] [Dat δ] [Dat ε] : Dat ((α × β) ⊕ Trp γ δ ε) where
  toD := fun x => match x with
    | .inl y => Dat.toD y
    | .inr z => Dat.toD z
  dp := fun {K B v x} h => by
    cases x with
    | inl y => exact Dat.dp (α := α × β) h
    | inr z => exact Dat.dp (α := Trp γ δ ε) h
  dep := max (Dat.dep (α × β)) (Dat.dep (Trp γ δ ε))
  hdep := fun x => by
    cases x with
    | inl y => exact Nat.le_trans (Dat.hdep y) (Nat.le_max_left _ _)
    | inr z => exact Nat.le_trans (Dat.hdep z) (Nat.le_max_right _ _)
  dec := by
    letI := Dat.dec (α := α × β); letI := Dat.dec (α := Trp γ δ ε)
    exact inferInstance
  eqv := fun x y => by
    letI := Dat.dec (α := α × β); letI := Dat.dec (α := Trp γ δ ε)
    cases x with
    | inl a =>
      cases y with
      | inl b =>
        refine (Dat.eqv a b).trans ?_
        by_cases h : a = b <;> simp [h]
      | inr b =>
        obtain ⟨a1, a2⟩ := a
        obtain ⟨b1, b2, b3⟩ := b
        show PyData.eqv (.tuple [Dat.toD a1, Dat.toD a2]) (.tuple [Dat.toD b1, Dat.toD b2, Dat.toD b3]) = _
        simp [PyData.eqv, PyData.eqvAll]
    | inr a =>
      cases y with
      | inl b =>
        obtain ⟨b1, b2⟩ := b
        obtain ⟨a1, a2, a3⟩ := a
        show PyData.eqv (.tuple [Dat.toD a1, Dat.toD a2, Dat.toD a3]) (.tuple [Dat.toD b1, Dat.toD b2]) = _
        simp [PyData.eqv, PyData.eqvAll]
      | inr b =>
        refine (Dat.eqv a b).trans ?_
        by_cases h : a = b <;> simp [h]
end
end Dn

set_option Elab.async false
set_option linter.all false
set_option maxRecDepth 100000
set_option maxHeartbeats 2000000
namespace Dn
open PySem PySem.Spec L2 PyProof.Rows
open Rep (rep)
open ORep (orep)
section
variable {X : Cx} {o e f : Expr} {apos cpos : Pos} {td ty tx : TE}
end
section
variable {α S L R : Type} [Rep α] [Rep R] {c : Ct} {env : List Slot} {ke de : Expr} {rest : List Stmt} {mk : S → List Slot} {lk : L → List Slot}
end
end Dn

set_option Elab.async false
set_option linter.all false
set_option maxRecDepth 100000
set_option maxHeartbeats 2000000
namespace L2
open PySem PySem.Spec PyProof.Rows Dn
section
variable {X : Cx}
end
end L2
namespace Dn
open PySem PySem.Spec L2
open Rep (rep)
section
variable {c : Ct} {env : List Slot} {a : Expr}
end
end Dn

set_option Elab.async false
set_option linter.all false
set_option maxRecDepth 100000
namespace L2
open PySem PySem.Spec
section
variable {X : Cx}
theorem ps_setDc {i : Nat} {y : Str} {py : Pos} {kx vx tg iter : Expr} {scope : Scope} {own : List (Str × Nat)} {pos spos : Pos} {wi : TI} {g : TG} {tk tv : TE} (hc : X.calm = true) (hN : X.N.Nodup) (hy : X.N[i]? = some y) (hyl : X.env.scope.names.lookup y = some .local)
    (hsw : swapsWith (.DictComp kx vx [⟨tg, iter, [], 0⟩] scope pos) (some (.Name y py)) spos.line X.env = pure true) (hi : PI X tg iter wi) (ok : BlkOk X.N X.env.scope scope own)
    (hg : ∀ (s : Shared) (H : Hp) (C : Addr) (cl : List (Str × Addr)) (fp : List Addr), PG (X.blk s H scope (compEnvC scope cl C X.env) fp) tg g)
    (hk : ∀ (s : Shared) (H : Hp) (C : Addr) (cl : List (Str × Addr)) (fp : List Addr), PE (X.blk s H scope (compEnvC scope cl C X.env) fp) kx tk)
    (hv : ∀ (s : Shared) (H : Hp) (C : Addr) (cl : List (Str × Addr)) (fp : List Addr), PE (X.blk s H scope (compEnvC scope cl C X.env) fp) vx tv) (hs : ∀ x, foldedSetIterable iter X.env x = pure x) :
    PS X (.Assign [.Name y py] (.DictComp kx vx [⟨tg, iter, [], 0⟩] scope pos) spos) (tAsg (tDc wi g tYes tk tv (own.map (·.2))) (gName i)) := by
  refine ⟨fun pins s σ H D I h => ?_⟩
  rw [exec_Assign_Name_used _ _ _ _ hsw]
  refine wpAny_bind (wpAny_standAt (wpAny_bind ?_))
  show wpAny _ X.A (do let _ ← comprehension (.DictComp kx vx [⟨tg, iter, [], 0⟩] scope pos) scope X.env (firstIterPos [⟨tg, iter, [], 0⟩] pos) newDict false (eval iter X.env) (some (assign (.Name y py) X.env))) _ _ s
  have h : tDc wi g tYes tk tv (own.map (·.2)) σ H (fun x H1 => gName i x σ H1 D.nx) := h
  refine wpAny_bind (thn (dc_core (Qf := fun _ s' => SP X pins D .next s') hc hN I hi ok hg (fun _ _ _ _ _ => pts_nil) hk hv hs h fun L C s' m H' I' q hn f => ?_) fun _ s' hq => wpAny_pure (wpAny_pure hq))
  show wpAny _ _ (assign (.Name y py) X.env (.ref L)) _ _ _
  obtain ⟨f0, f1, f2, f3, f4, f5⟩ := f
  refine wpAny_assign_Name (store_ok2 (v := V.ref L) I' hN hy (.inl hyl) rfl (fun s2 I2 h2 => ?_) (.inr hyl))
  obtain ⟨a, sb, ha⟩ := h2
  have haC : C ≠ a := by
    rcases ha with z | z
    · rw [z]; exact f1
    · exact fun e => f4 y a z e.symm
  exact ⟨m, hn.sameBut sb haC, fun h3 sb3 => ⟨_, H', I2.turned (t' := s2.toks) (fun b o hb e => (sb3.2 b hb).trans e) f0 f1 f3 f4 f5, q⟩⟩
theorem dcs_it {J : It} {n : Nat} {G : Hp → Prop} {Y : Nat → Hp → V → Hp → Prop} (w : Walk J n G Y) {g : TG} {tk tv : TE} {vs : List Nat} {σ : St} {H1 : Hp} {D : Addr} {Qd : Hp → Prop} (Pv : Nat → Hp → Prop) (h0 : Pv 0 (upd H1 D (.dK []))) (hG : ∀ i H, i ≤ n → Pv i H → G H)
    (hs : ∀ i x H H', i < n → Pv i H → Y i H x H' → g x (wipe σ vs) H' fun σ2 H2 => wipe σ2 vs = wipe σ vs ∧ tk σ2 H2 fun y H4 => tv σ2 H4 fun z H5 => ∃ kvs k, y = kV k ∧ H5 D = some (.dK kvs) ∧ kvs.length < sizeLine ∧ Pv (i + 1) (upd H5 D (.dK (putK kvs k z)))) (hd : ∀ H, Pv n H → Qd H) :
    ∃ W : Nat → Nat → Hp → Prop, (∃ m, W 0 m (upd H1 D (.dK []))) ∧ ∀ i m H, W i m H →
      (J.stop i H ∧ Qd H) ∨ (J.go i H ∧ ∃ Nx : Hp → Prop, (∀ H', Nx H' → ∃ m', m' < m ∧ W (i + 1) m' H') ∧ ∀ x H', J.yld i H x H' → g x (wipe σ vs) H' fun σ2 H2 => wipe σ2 vs = wipe σ vs ∧ tYes σ2 H2 fun b H3 =>
        if b = true then tk σ2 H3 fun y H4 => tv σ2 H4 fun z H5 => ∃ kvs k, y = kV k ∧ H5 D = some (.dK kvs) ∧ kvs.length < sizeLine ∧ Nx (upd H5 D (.dK (putK kvs k z))) else Nx H3) := by
  refine ⟨fun i m H => m = n - i ∧ i ≤ n ∧ Pv i H, ⟨n, (Nat.sub_zero n).symm, Nat.zero_le _, h0⟩, fun i m H h => ?_⟩
  obtain ⟨rfl, hi, p⟩ := h
  have q := hG i H hi p
  rcases Nat.lt_or_ge i n with hlt | hge
  · refine .inr ⟨w.goes i H hlt q, Pv (i + 1), fun H' p' => ⟨n - (i + 1), by omega, rfl, hlt, p'⟩, fun x H' y => hs i x H H' hlt p (w.yields i H x H' hlt q y)⟩
  · obtain rfl : i = n := by omega
    exact .inl ⟨w.stops H q, hd H p⟩
end
end L2
namespace Dn
open PySem PySem.Spec L2
open Rep (rep)
open ORep (orep)
structure DctS (α : Type) where
  l : List (Str × α)
section
variable {α : Type}
def DctS.get (d : DctS α) (k : Str) : Option α := (d.l.find? fun p => decide (p.1 = k)).map (·.2)
def DctS.has (d : DctS α) (k : Str) : Bool := d.l.any fun p => decide (p.1 = k)
def DctS.put (d : DctS α) (k : Str) (v : α) : DctS α := if d.has k = true then ⟨d.l.map fun p => if p.1 = k then (p.1, v) else p⟩ else ⟨d.l ++ [(k, v)]⟩
theorem DctS.put_len (d : DctS α) (k : Str) (v : α) : (d.put k v).l.length ≤ d.l.length + 1 := by
  unfold DctS.put
  split
  · rw [List.length_map]; omega
  · rw [List.length_append]; exact Nat.le_refl _
variable [Rep α] {K : PySem.W.Frag} {B B' : Hp}
def SRel (K : PySem.W.Frag) (B : Hp) (xs : List (Key × V)) (l : List (Str × α)) : Prop := Paired (fun (x : Key × V) (p : Str × α) => x.1 = .inr p.1 ∧ rep K B x.2 p.2) xs l
theorem SRel.mono (e : Le B B') {xs : List (Key × V)} {l : List (Str × α)} (r : SRel K B xs l) : SRel K B' xs l := Paired.mapP r fun _ _ h => ⟨h.1, Rep.mono e h.2⟩
theorem SRel.at_ {xs : List (Key × V)} {l : List (Str × α)} (r : SRel K B xs l) (k : Str) : (∀ y, (⟨l⟩ : DctS α).get k = some y → ∃ v, valV xs (.inr k) = some v ∧ rep K B v y) ∧ ((⟨l⟩ : DctS α).get k = none → valV xs (.inr k) = none) := by
  unfold SRel at r
  unfold DctS.get
  induction r with
  | nil => exact ⟨fun y h => (nomatch (show (none : Option α) = some y from h)), fun _ => rfl⟩
  | @cons x p xs ps h t ih =>
    by_cases e : p.1 = k
    · have e' : x.1 = .inr k := by rw [h.1, e]
      have a1 : List.find? (fun q : Str × α => decide (q.1 = k)) (p :: ps) = some p := by rw [List.find?_cons, decide_eq_true e]
      rw [a1, valV_pos e']
      exact ⟨fun y hy => ⟨_, rfl, by cases hy; exact h.2⟩, fun h => nomatch h⟩
    · have e' : ¬ x.1 = .inr k := fun z => e (by rw [h.1] at z; exact Sum.inr.inj z)
      have a1 : List.find? (fun q : Str × α => decide (q.1 = k)) (p :: ps) = List.find? (fun q : Str × α => decide (q.1 = k)) ps := by rw [List.find?_cons, decide_eq_false e]
      rw [a1, valV_neg e']
      exact ih
theorem SRel.has_ {xs : List (Key × V)} {l : List (Str × α)} (r : SRel K B xs l) (k : Str) : (xs.any fun kv => decide (kv.1 = (.inr k : Key))) = (⟨l⟩ : DctS α).has k := by
  unfold SRel at r
  unfold DctS.has
  induction r with
  | nil => rfl
  | @cons x p xs ps h t ih =>
    rw [List.any_cons]
    show _ = (p :: ps).any _
    rw [List.any_cons]
    have : decide (x.1 = (.inr k : Key)) = decide (p.1 = k) := by
      rw [h.1]
      by_cases e : p.1 = k
      · rw [e, decide_eq_true rfl, decide_eq_true rfl]
      · rw [decide_eq_false e, decide_eq_false fun z => e (Sum.inr.inj z)]
    rw [this]
    exact congrArg _ ih
theorem SRel.put {xs : List (Key × V)} {l : List (Str × α)} (r : SRel K B xs l) {k : Str} {v : V} {y : α} (hv : rep K B v y) : SRel K B (putK xs (.inr k) v) ((⟨l⟩ : DctS α).put k y).l := by
  unfold putK DctS.put
  rw [r.has_ k]
  by_cases q : (⟨l⟩ : DctS α).has k = true
  · rw [if_pos q, if_pos q]
    clear q
    unfold SRel at r ⊢
    induction r with
    | nil => exact .nil
    | @cons x p xs ps h t ih =>
      rw [List.map_cons]
      refine .cons ?_ ih
      by_cases e : p.1 = k
      · have e1 : (if x.1 = (.inr k : Key) then (x.1, v) else x) = (x.1, v) := if_pos (by rw [h.1, e])
        have e2 : (if p.1 = k then (p.1, y) else p) = (p.1, y) := if_pos e
        show (if x.1 = (.inr k : Key) then (x.1, v) else x).1 = .inr (if p.1 = k then (p.1, y) else p).1 ∧ rep K B (if x.1 = (.inr k : Key) then (x.1, v) else x).2 (if p.1 = k then (p.1, y) else p).2
        rw [e1, e2]
        exact ⟨h.1, hv⟩
      · have e1 : (if x.1 = (.inr k : Key) then (x.1, v) else x) = x := if_neg (fun z => e (by rw [h.1] at z; exact Sum.inr.inj z))
        have e2 : (if p.1 = k then (p.1, y) else p) = p := if_neg e
        show (if x.1 = (.inr k : Key) then (x.1, v) else x).1 = .inr (if p.1 = k then (p.1, y) else p).1 ∧ rep K B (if x.1 = (.inr k : Key) then (x.1, v) else x).2 (if p.1 = k then (p.1, y) else p).2
        rw [e1, e2]
        exact h
  · rw [if_neg q, if_neg q]
    exact Paired.snoc r ⟨rfl, hv⟩
end
section
variable {α : Type} [Rep α]
def sSlot (d : DctS α) : PySem.W.Frag → Hp → Addr → HO → Prop := fun K B _ o => ∃ xs, o = .dK xs ∧ SRel K B xs d.l
theorem sSlot_mono (d : DctS α) : ∀ K B B' a o, Le B B' → sSlot d K B a o → sSlot d K B' a o := fun _ _ _ _ _ e ⟨xs, h, r⟩ => ⟨xs, h, r.mono e⟩
abbrev Slot.dcs (d : DctS α) : Slot := .obj (sSlot d) (sSlot_mono d)
instance : Rep (DctS α) := ⟨fun K B v d => ∃ a xs, v = .ref a ∧ B a = some (.dK xs) ∧ SRel K B xs d.l, fun e ⟨a, xs, h, s, r⟩ => ⟨a, xs, h, e a _ s, r.mono e⟩⟩
end
theorem str_key {K : PySem.W.Frag} {B : Hp} {v : V} {k : Str} (r : rep K B v k) : v = kV (.inr k) := r
section
variable {S L R : Type} [Rep R] {c : Ct} {env : List Slot} {rest : List Stmt} {e i o f a : Expr} {mk : S → List Slot} {lk : L → List Slot} {α : Type} [Rep α]
theorem ds_newS (j : Nat) {x : Str} {p1 p2 pos : Pos} {k : Fl S L R} (nd : c.N.Nodup) (hN : c.N[j]? = some x) (hx : Loc c.sc x) (hf : c.fn x = true ∨ c.sc.names.lookup x = some .local) (g : DeS c (env.set j (.dcs (⟨[]⟩ : DctS α))) rest mk lk k)
    (hs : ∀ env : PySem.Env, env.scope = c.sc → swapsWith (.Dict [] [] p2) (some (.Name x p1)) pos.line env = pure false := by intro _ _; rfl) : DeS c env (.Assign [.Name x p1] (.Dict [] [] p2) pos :: rest) mk lk k := .mk fun B0 H0 B H σ O D P => by
  refine cS_cons (t := tAsg tDNewK (gName j)) (fun X F => ps_set (by rw [F.N]; exact nd) (fits_ix F hN) (fits_loc F hx) pe_dnewK (hs _ F.sc) (by rw [F.fn, F.sc]; exact hf)) ?_
  intro p np
  exact g B0 H0 B _ _ (O.setG (φ := sSlot (⟨[]⟩ : DctS α)) (hm := sSlot_mono _) j np (Grow.free O.en.bh np) (O.en.bh.none np) upd_same ⟨[], rfl, .nil⟩) D P
theorem ds_putS (j : Nat) {x : Str} {p1 p2 pos : Pos} {d : DctS α} {m : Option α} {n : Option Str} {k : DctS α → Fl S L R} (hj : env[j]? = some (.dcs d)) (hN : c.N[j]? = some x) (hv : Vis c.sc x) (h : De c env e m) (hi : De c env i n) (g : ∀ d' : DctS α, DeS c (env.set j (.dcs d')) rest mk lk (k d'))
    (hd : (x == ("__debug__" : Str)) = false := by decide) (hcd : (x == ("__classdict__" : Str)) = false := by decide)
    (hs : ∀ env, swapsWith e (some (.Subscript (.Name x p1) i p2)) pos.line env = pure false := by intro _; rfl) :
    DeS c env (.Assign [.Subscript (.Name x p1) i p2] e pos :: rest) mk lk (Fl.bindO m fun y => Fl.bindO n fun z => if len1 d.l.length = true then k (d.put z y) else .err) := .mk fun B0 H0 B H σ O D P => by
  obtain ⟨y, ey, P⟩ := post_bindO P
  obtain ⟨z, ez, P⟩ := post_bindO P
  obtain ⟨t, t1, t2⟩ := h
  obtain ⟨u, u1, u2⟩ := hi
  split at P
  · rename_i hl
    refine cS_cons (t := sDPut (tVar j) u t) (fun X F => ps_dput (Nat.lt_of_le_of_lt (Nat.add_le_add_left (by decide) _) (fits_units F)) (pe_var (fits_ix F hN) (fits_vis F hv) hd hcd) (u1 X F) (t1 X F) (hs _)) ?_
    refine t2 y ey B H σ O.en _ fun v B1 H1 k1 rv => ?_
    have O1 := O.grow k1
    obtain ⟨a, ob, e1, e2, e3, xs, rfl, r⟩ := O1.en.obj hj
    refine ⟨.ref a, e1, ?_⟩
    refine u2 z ez B1 H1 σ O1.en _ fun w B2 H2 k2 rw2 => ?_
    have O2 := O1.grow k2
    have r2 := r.mono k2.b
    refine ⟨a, _, rfl, .inl ⟨xs, .inr z, k2.h a _ e2, str_key rw2, ?_, rfl⟩, ?_⟩
    · rw [Paired.length r]
      exact Nat.lt_of_le_of_lt (of_decide_eq_true hl) (by decide)
    · exact g (d.put z y) B0 H0 B2 _ σ (O2.change (ψ := sSlot (d.put z y)) (hm' := sSlot_mono _) j hj e1 ⟨_, rfl, r2.put (Rep.mono k2.b rv)⟩) D (P.mono (k1.b.trans k2.b))
  · exact P.elim
theorem de_getSO (j : Nat) {x : Str} {p1 pos : Pos} {d : DctS α} {n : Option Str} (hj : env[j]? = some (.dcs d)) (hN : c.N[j]? = some x) (hv : Vis c.sc x) (hi : De c env i n)
    (hd : (x == ("__debug__" : Str)) = false := by decide) (hcd : (x == ("__classdict__" : Str)) = false := by decide) (hs : NoSl i := by intro _ _; rfl) : De c env (.Subscript (.Name x p1) i pos) (n.bind fun k => d.get k) := by
  obtain ⟨u, u1, u2⟩ := hi
  refine ⟨tDGet (tVar j) u, fun X F => pe_dget (Nat.lt_of_le_of_lt (Nat.add_le_add_left (by decide) _) (fits_units F)) (pe_var (fits_ix F hN) (fits_vis F hv) hd hcd) (u1 X F) hs, fun z hz B H σ E Q q => ?_⟩
  obtain ⟨k, ek, hz⟩ := bind_some hz
  obtain ⟨a, ob, e1, e2, e3, xs, rfl, r⟩ := E.obj hj
  refine ⟨.ref a, e1, ?_⟩
  refine u2 k ek B H σ E _ fun w B2 H2 k2 r2 => ?_
  obtain ⟨v2, e4, rv⟩ := ((r.mono k2.b).at_ k).1 z hz
  refine ⟨a, v2, rfl, ?_, q v2 B2 H2 k2 rv⟩
  rw [str_key r2, ← e4]
  exact DGet.k (k2.h a _ e2)
end
section
variable {c : Ct} {env : List Slot} {e kx vx iter tg : Expr} {α β : Type} [Rep α] [Rep β]
def EvMS (K : PySem.W.Frag) (env : List Slot) (t : TE) (d : DctS β) : Prop := ∀ (B H : Hp) (σ : St), Env K B H σ env → ∀ Q : VK, (∀ p xs B' H', H p = none → Grow B H B' H' → B' p = none → H' p = some (.dK xs) → SRel K B' xs d.l → Q (.ref p) H') → t σ H Q
def dcsO (hk : α → Option Str) (hv : α → Option β) : List α → DctS β → Option (DctS β)
  | [], d => some d
  | x :: xs, d => (hk x).bind fun k => (hv x).bind fun v => dcsO hk hv xs (d.put k v)
theorem dcsO_snoc (hk : α → Option Str) (hv : α → Option β) (x : α) : ∀ (xs : List α) (d : DctS β), dcsO hk hv (xs ++ [x]) d = (dcsO hk hv xs d).bind fun d2 => (hk x).bind fun k => (hv x).bind fun v => some (d2.put k v)
  | [], d => rfl
  | y :: ys, d => by
    show (hk y).bind (fun k => (hv y).bind fun v => dcsO hk hv (ys ++ [x]) (d.put k v)) = ((hk y).bind fun k => (hv y).bind fun v => dcsO hk hv ys (d.put k v)).bind _
    cases hk y with
    | none => rfl
    | some k =>
      cases hv y with
      | none => rfl
      | some v => exact dcsO_snoc hk hv x ys (d.put k v)
theorem dcsO_take {hk : α → Option Str} {hv : α → Option β} : ∀ {xs : List α} {d d2 : DctS β}, dcsO hk hv xs d = some d2 → ∀ i, ∃ d3, dcsO hk hv (xs.take i) d = some d3
  | [], d, d2, _, i => ⟨d, by rw [List.take_nil]; rfl⟩
  | x :: xs, d, d2, e, i => by
    cases i with
    | zero => exact ⟨d, rfl⟩
    | succ i =>
      obtain ⟨k, ek, e⟩ := bind_some (show (hk x).bind (fun k => (hv x).bind fun v => dcsO hk hv xs (d.put k v)) = some d2 from e)
      obtain ⟨v, ev, e⟩ := bind_some e
      obtain ⟨d3, e3⟩ := dcsO_take e i
      refine ⟨d3, ?_⟩
      show (hk x).bind (fun k => (hv x).bind fun v => dcsO hk hv (xs.take i) (d.put k v)) = some d3
      rw [ek, Option.bind_some, ev, Option.bind_some]
      exact e3
theorem ev_dcs {K : PySem.W.Frag} {wi : TI} {g : TG} {tk tv : TE} {vs is : List Nat} {f : α → List Slot → List Slot} {xs : List α} {d0 : DctS β} {hk : α → Option Str} {hv : α → Option β}
    (hi : ∀ (B H : Hp) (σ : St), Env K B H σ env → ∀ R : It → Hp → Prop, (∀ J B' H', Grow B H B' H' → DWalk K B' J xs → R J H') → wi σ H R) (hg : TgS K g f is) (sub : ∀ i ∈ is, i ∈ vs)
    (ek : ∀ x k, hk x = some k → EvE K (f x (wipeE env vs)) tk k) (ev : ∀ x y, hv x = some y → EvE K (f x (wipeE env vs)) tv y) (hl : xs.length ≤ 100000) (hz : dcsO hk hv xs ⟨[]⟩ = some d0) :
    EvMS K env (tDc wi g tYes tk tv vs) d0 := by
  intro B H σ E Q q
  refine hi B H σ E _ fun J B1 H1 k1 ⟨G, Y, W, hG, hY⟩ D hD => ?_
  have nB1 : B1 D = none := k1.bh.none hD
  have E1 := (E.grow k1).wipe vs
  refine dcs_it W (fun i H2 => ∃ B2 es d, Grow B1 H1 B2 H2 ∧ B2 D = none ∧ H2 D = some (.dK es) ∧ dcsO hk hv (xs.take i) ⟨[]⟩ = some d ∧ SRel K B2 es d.l ∧ d.l.length ≤ i)
    ⟨B1, [], ⟨[]⟩, Grow.free k1.bh hD, nB1, upd_same, rfl, .nil, Nat.le_refl _⟩ (fun i H2 _ ⟨B2, es, d, g2, _⟩ => hG H2 (g2.b.trans g2.bh)) (fun i v H2 H3 hi ⟨B2, es, d, g2, n2, eD, ez, r, dl⟩ y => ?_) fun H2 ⟨B2, es, d, g2, n2, eD, ez, r, _⟩ => ?_
  · obtain ⟨B3, x, g3, ex, rx⟩ := hY i B2 H2 v H3 hi g2.b g2.bh y
    have eD3 := g3.h D _ eD
    have n3 : B3 D = none := g3.f D n2 (by rw [eD]; exact fun z => nomatch z)
    have tk1 : xs.take (i + 1) = xs.take i ++ [x] := by rw [List.take_add_one, ex]; rfl
    obtain ⟨d', ed'⟩ := dcsO_take hz (i + 1)
    rw [tk1, dcsO_snoc, ez] at ed'
    obtain ⟨k, hkx, ed'⟩ := bind_some (m := hk x) ed'
    obtain ⟨w, hvx, ed'⟩ := bind_some (m := hv x) ed'
    cases ed'
    have g13 := g2.trans g3
    refine hg.run x _ B3 H3 _ v (E1.grow g13) rx _ fun σ' E' l' k' o' => ⟨wipe_same (l'.trans (wipe_length ..)) (fun i hi => (k' i hi).1) sub, ?_⟩
    refine ek x k hkx B3 H3 σ' E' _ fun u1 B4 H4 g4 ru1 => ?_
    have eD4 := g4.h D _ eD3
    have n4 : B4 D = none := g4.f D n3 (by rw [eD3]; exact fun z => nomatch z)
    refine ev x w hvx B4 H4 σ' (E'.grow g4) _ fun u2 B5 H5 g5 ru2 => ?_
    have eD5 := g5.h D _ eD4
    have n5 : B5 D = none := g5.f D n4 (by rw [eD4]; exact fun z => nomatch z)
    have r5 := ((r.mono g3.b).mono g4.b).mono g5.b
    refine ⟨es, .inr k, str_key ru1, eD5, ?_, B5, putK es (.inr k) u2, d.put k w, ?_, n5, upd_same, ?_, r5.put ru2, ?_⟩
    · rw [Paired.length r]
      have : d.l.length ≤ 100000 := by omega
      exact Nat.lt_of_le_of_lt this (by decide)
    · have g := (g13.trans g4).trans g5
      refine ⟨g.b, fun a u z => ?_, fun a u z => ?_, g.f⟩
      · rw [upd_ne (fun k => by rw [k, n5] at z; cases z)]
        exact g.bh a u z
      · rw [upd_ne (fun k => by rw [k, hD] at z; cases z)]
        exact g.h a u z
    · rw [tk1, dcsO_snoc, ez, Option.bind_some, hkx, Option.bind_some, hvx, Option.bind_some]
    · have := DctS.put_len d k w
      omega
  · rw [List.take_length, hz] at ez
    cases ez
    exact q D es B2 H2 (k1.none hD) (k1.trans g2) n2 eD r
def AsMS (c : Ct) (env : List Slot) (st : Stmt) (i : Nat) (m : Option (DctS β)) : Prop := ∃ te, (∀ X, Fits c X → PS X st (tAsg te (gName i))) ∧ ∀ d, m = some d → EvMS c.K env te d
end
section
variable {S L R : Type} [Rep R] {c : Ct} {env : List Slot} {st : Stmt} {rest : List Stmt} {mk : S → List Slot} {lk : L → List Slot} {β : Type} [Rep β]
theorem ds_ownMS {i : Nat} {m : Option (DctS β)} {k : DctS β → Fl S L R} (h : AsMS c env st i m) (g : ∀ x, DeS c (env.set i (.dcs x)) rest mk lk (k x)) : DeS c env (st :: rest) mk lk (Fl.bindO m k) := .mk fun B0 H0 B H σ O D P => by
  obtain ⟨x, ex, P⟩ := post_bindO P
  obtain ⟨t, h1, h2⟩ := h
  refine cS_cons h1 ?_
  exact h2 x ex B H σ O.en _ fun p xs B1 H1 np k1 nb hp r => g x B0 H0 B1 H1 _ (O.setG (φ := sSlot x) (hm := sSlot_mono x) i np k1 nb hp ⟨xs, rfl, r⟩) D (P.mono k1.b)
end
end Dn

set_option Elab.async false
set_option linter.all false
set_option maxRecDepth 100000
namespace Dn
open PySem PySem.Spec L2
open Rep (rep)
section
variable {c : Ct} {env : List Slot} {e a b : Expr} {α : Type} [Rep α]
theorem de_bor {pos : Pos} {ma mb : Option Int} (ha : De c env a ma) (hb : De c env b mb) : De c env (.BinOp a .BitOr b pos) (ma.bind fun x => mb.bind fun y => some (Builtin.bitOr x y)) := de_op (fun _ _ => op_or) ops_I0 ha hb
theorem de_bxor {pos : Pos} {ma mb : Option Int} (ha : De c env a ma) (hb : De c env b mb) : De c env (.BinOp a .BitXor b pos) (ma.bind fun x => mb.bind fun y => some (Builtin.bitXor x y)) := de_op (fun _ _ => op_xor) ops_I0 ha hb
def toDuo : List α → Option (Duo α α)
  | [x, y] => some ⟨x, y⟩
  | _ => none
theorem de_toDuo {m : Option (List α)} (h : De c env e m) : De c env e (m.bind toDuo) := by
  obtain ⟨t, h1, h2⟩ := h
  refine ⟨t, h1, fun z hz B H σ E Q q => ?_⟩
  obtain ⟨xs, ex, hz⟩ := bind_some hz
  refine h2 xs ex B H σ E Q fun v B1 H1 k1 r => q v B1 H1 k1 ?_
  match xs, hz, r with
  | [x, y], hz, r =>
    cases hz
    obtain ⟨a, vs, rfl, s, r⟩ := r
    cases r with
    | cons r1 r =>
      cases r with
      | cons r2 r =>
        cases r
        exact ⟨a, _, _, rfl, s, r1, r2⟩
end
section
variable {c : Ct} {env : List Slot} {e kx vx iter tg : Expr} {α β : Type} [Rep α] [Rep β]
theorem as_mcompST (i : Nat) {y : Str} {py pos spos : Pos} {scope : Scope} {own : List (Str × Nat)} {is : List Nat} {f : α → List Slot → List Slot} {m : Option (List α)} {hk : α → Option Str} {hv : α → Option β} (nd : c.N.Nodup) (hN : c.N[i]? = some y) (hy : c.sc.names.lookup y = some .local) (hkd : c.sc.kind = .function) (hln : (py.line == pos.line) = true)
    (hn : (scope.names.any fun (n, k) => n == y && (k == .local || k == .cell)) = false) (hi : DeItT c env tg iter m) (ok : BlkOk c.N c.sc scope own) (hg : DeTg (c.blk scope) tg f is) (sub : ∀ i ∈ is, i ∈ own.map (·.2))
    (hkk : ∀ x, De (c.blk scope) (f x (wipeE env (own.map (·.2)))) kx (hk x)) (hvv : ∀ x, De (c.blk scope) (f x (wipeE env (own.map (·.2)))) vx (hv x)) (hs : ∀ env x, foldedSetIterable iter env x = pure x := by intro _ _; rfl) :
    AsMS c env (.Assign [.Name y py] (.DictComp kx vx [⟨tg, iter, [], 0⟩] scope pos) spos) i (m.bind fun xs => (capI xs).bind fun xs => dcsO hk hv xs ⟨[]⟩) := by
  obtain ⟨wi, i1, i2⟩ := hi
  obtain ⟨g, g1, g2⟩ := hg
  refine ⟨tDc wi g tYes (cE (c.blk scope) kx) (cE (c.blk scope) vx) (own.map (·.2)), fun X F => ps_setDc F.calm (by rw [F.N]; exact nd) (fits_ix F hN) (by rw [F.sc]; exact hy) (sw_trueE (by rw [F.sc]; exact hkd) (by rw [F.sc]; exact hy) hln hn) (i1 X F) (by rw [F.N, F.sc]; exact ok) (fun s H C cl fp => g1 _ (F.blk s H scope C cl fp)) (fun s H C cl fp => cE_pe _ (F.blk s H scope C cl fp)) (fun s H C cl fp => cE_pe _ (F.blk s H scope C cl fp)) (hs _), fun z hz => ?_⟩
  obtain ⟨xs, ex, hz⟩ := bind_some hz
  obtain ⟨xs', hc, hz⟩ := bind_some hz
  unfold capI at hc
  split at hc
  · rename_i hl
    cases hc
    exact ev_dcs (K := c.K) (i2 xs ex) g2 sub (fun x k h => (hkk x).can k h) (fun x y h => (hvv x).can y h) (of_decide_eq_true hl) hz
  · cases hc
def DeMS (c : Ct) (env : List Slot) (e : Expr) (m : Option (DctS β)) : Prop := ∃ t, (∀ X, Fits c X → PE X e t) ∧ ∀ d, m = some d → EvMS c.K env t d
theorem dms_compT {scope : Scope} {own : List (Str × Nat)} {pos : Pos} {is : List Nat} {f : α → List Slot → List Slot} {m : Option (List α)} {hk : α → Option Str} {hv : α → Option β} (nd : c.N.Nodup) (hi : DeItT c env tg iter m) (ok : BlkOk c.N c.sc scope own) (hg : DeTg (c.blk scope) tg f is) (sub : ∀ i ∈ is, i ∈ own.map (·.2))
    (hkk : ∀ x, De (c.blk scope) (f x (wipeE env (own.map (·.2)))) kx (hk x)) (hvv : ∀ x, De (c.blk scope) (f x (wipeE env (own.map (·.2)))) vx (hv x)) (hs : ∀ env x, foldedSetIterable iter env x = pure x := by intro _ _; rfl) :
    DeMS c env (.DictComp kx vx [⟨tg, iter, [], 0⟩] scope pos) (m.bind fun xs => (capI xs).bind fun xs => dcsO hk hv xs ⟨[]⟩) := by
  obtain ⟨wi, i1, i2⟩ := hi
  obtain ⟨g, g1, g2⟩ := hg
  refine ⟨tDc wi g tYes (cE (c.blk scope) kx) (cE (c.blk scope) vx) (own.map (·.2)), fun X F => pe_dc F.calm (by rw [F.N]; exact nd) (i1 X F) (by rw [F.N, F.sc]; exact ok) (fun s H C cl fp => g1 _ (F.blk s H scope C cl fp)) (fun _ _ _ _ _ => pts_nil) (fun s H C cl fp => cE_pe _ (F.blk s H scope C cl fp)) (fun s H C cl fp => cE_pe _ (F.blk s H scope C cl fp)) (hs _), fun z hz => ?_⟩
  obtain ⟨xs, ex, hz⟩ := bind_some hz
  obtain ⟨xs', hc, hz⟩ := bind_some hz
  unfold capI at hc
  split at hc
  · rename_i hl
    cases hc
    exact ev_dcs (K := c.K) (i2 xs ex) g2 sub (fun x k h => (hkk x).can k h) (fun x y h => (hvv x).can y h) (of_decide_eq_true hl) hz
  · cases hc
theorem as_mS {m : Option (DctS β)} (i : Nat) {x : Str} {pos pos' : Pos} (h : DeMS c env e m) (nd : c.N.Nodup) (hN : c.N[i]? = some x) (hx : Loc c.sc x) (hf : c.fn x = true ∨ c.sc.names.lookup x = some .local) (hs : ∀ env : PySem.Env, env.scope = c.sc → swapsWith e (some (.Name x pos')) pos.line env = pure false) : AsMS c env (.Assign [.Name x pos'] e pos) i m := by
  obtain ⟨t, h1, h2⟩ := h
  exact ⟨t, fun X F => ps_set (by rw [F.N]; exact nd) (fits_ix F hN) (fits_loc F hx) (h1 X F) (hs _ F.sc) (by rw [F.fn, F.sc]; exact hf), h2⟩
end
section
variable {c : Ct} {env : List Slot} {α R : Type} [Rep α] [ORep R]
theorem bind1' {m1 : Option α} {f : α × Unit → Option R} : ((m1.bind fun a1 => (some ()).bind fun u => some (a1, u)).bind f) = m1.bind fun a1 => f (a1, ()) := by cases m1 <;> rfl
theorem dn_call1 {f : α × Unit → Option R} {x : Str} {p pos : Pos} {e1 : Expr} {m1 : Option α} (D : DfN c x f) (h1 : De c env e1 m1) (hg : Gv c x := by rfl) (hdb : (x == ("__debug__" : Str)) = false := by decide)
    (he : ∀ env, starEach [e1] env = (false, eval e1 env) :: starEach [] env := by intro _; rfl) :
    DeN c env (.Call (.Name x p) [e1] [] pos) (m1.bind fun a1 => f (a1, ())) :=
  Eq.subst bind1' (motive := fun m => DeN c env (.Call (.Name x p) [e1] [] pos) m) (dn_call D (dp_cons h1 dp_nil he) hg hdb he (fun _ => rfl))
end
end Dn

set_option Elab.async false
set_option linter.all false
set_option maxRecDepth 100000
namespace Dn
open PySem PySem.Spec L2
open Rep (rep)
open ORep (orep)
section
variable {α β γ : Type} [Rep α] [Rep β] [Rep γ]
instance : ORep (Tri α β γ) := ⟨fun K B o x => ∃ v1 v2 v3, o = .lst [v1, v2, v3] ∧ rep K B v1 x.x1 ∧ rep K B v2 x.x2 ∧ rep K B v3 x.x3, fun e ⟨v1, v2, v3, h, r1, r2, r3⟩ => ⟨v1, v2, v3, h, Rep.mono e r1, Rep.mono e r2, Rep.mono e r3⟩⟩
variable {c : Ct} {env : List Slot} {e e1 e2 e3 : Expr}
theorem dn_tri {pos : Pos} {m1 : Option α} {m2 : Option β} {m3 : Option γ} (h1 : De c env e1 m1) (h2 : De c env e2 m2) (h3 : De c env e3 m3)
    (s1 : ∀ env, starEach [e1, e2, e3] env = (false, eval e1 env) :: starEach [e2, e3] env := by intro _; rfl) (s2 : ∀ env, starEach [e2, e3] env = (false, eval e2 env) :: starEach [e3] env := by intro _; rfl) (s3 : ∀ env, starEach [e3] env = (false, eval e3 env) :: starEach [] env := by intro _; rfl) :
    DeN c env (.List [e1, e2, e3] pos) (m1.bind fun x => m2.bind fun y => m3.bind fun z => some (Tri.mk x y z)) := by
  obtain ⟨t1, a1, b1⟩ := h1
  obtain ⟨t2, a2, b2⟩ := h2
  obtain ⟨t3, a3, b3⟩ := h3
  refine ⟨_, fun X F => pe_lst (pa_cons (a1 X F) (pa_cons (a2 X F) (pa_cons (a3 X F) pa_nil (s3 _)) (s2 _)) (s1 _)), fun w hw B H σ E Q q => ?_⟩
  obtain ⟨x, ex, hw⟩ := bind_some hw
  obtain ⟨y, ey, hw⟩ := bind_some hw
  obtain ⟨z, ez, hw⟩ := bind_some hw
  cases hw
  refine b1 x ex B H σ E _ fun v1 B1 H1 k1 r1 => b2 y ey B1 H1 σ (E.grow k1) _ fun v2 B2 H2 k2 r2 => b3 z ez B2 H2 σ ((E.grow k1).grow k2) _ fun v3 B3 H3 k3 r3 => ⟨by show 3 ≤ sizeLine; decide, fun p np => ?_⟩
  have g := (k1.trans k2).trans k3
  exact q p _ B3 _ (g.none np) (g.trans (Grow.free g.bh np)) (g.bh.none np) upd_same ⟨v1, v2, v3, rfl, Rep.mono (k2.b.trans k3.b) r1, Rep.mono k3.b r2, r3⟩
theorem DeN.deT {m : Option (Tri α β γ)} (h : DeN c env e m) : De c env e m := by
  obtain ⟨t, h1, h2⟩ := h
  refine ⟨t, h1, fun x hx B H σ E Q q => h2 x hx B H σ E Q fun p o B' H' np g nb hp r => ?_⟩
  obtain ⟨v1, v2, v3, rfl, r1, r2, r3⟩ := r
  have hB : Le (upd B' p (.lst [v1, v2, v3])) H' := fun a u z => by
    by_cases k : a = p
    · subst k
      rw [upd_same] at z
      rw [hp, z]
    · rw [upd_ne k] at z
      exact g.bh a u z
  refine q (.ref p) (upd B' p (.lst [v1, v2, v3])) H' ⟨g.b.trans (Le.put nb), hB, g.h, fun a z n => ?_⟩ ⟨p, v1, v2, v3, rfl, SqL.of upd_same, Rep.mono (Le.put nb) r1, Rep.mono (Le.put nb) r2, Rep.mono (Le.put nb) r3⟩
  rw [upd_ne (fun k => n (by rw [k]; exact np))]
  exact g.f a z n
theorem de_tri3O {x : Tri α β γ} (i : Nat) {n : Str} {j : Nat} {p0 p1 pos : Pos} (he : env[i]? = some (.own x)) (hN : c.N[i]? = some n) (hv : Vis c.sc n) (hd : (n == ("__debug__" : Str)) = false := by decide) (hcd : (n == ("__classdict__" : Str)) = false := by decide) :
    De c env (.Subscript (.Name n p0) (.Constant (.int 2) j p1) pos) (some x.x3) := by
  refine ⟨tOp (rIxL c.K) (tVar i) (tC (.int 2)), fun X F => pe_ix (by rw [← F.K]; exact ix_list) (pe_var (fits_ix F hN) (fits_vis F hv) hd hcd) pe_int (fun _ _ => rfl), fun z hz B H σ E Q q => ?_⟩
  cases hz
  obtain ⟨a, o, e1, e2, e3, v1, v2, v3, rfl, r1, r2, r3⟩ := E.obj he
  refine ⟨.ref a, e1, ?_⟩
  exact ⟨a, _, 2, v3, rfl, rfl, SqL.of e2, rfl, q v3 B H (Grow.refl E.bh) r3⟩
end
section
variable {S L R : Type} [Rep R] {α β γ : Type} [Rep α] [Rep β] [Rep γ] {c : Ct} {env : List Slot} {rest b : List Stmt} {e : Expr} {mk : S → List Slot} {lk : L → List Slot}
theorem ds_freezeT {x : Tri α β γ} {m : Fl S L R} (j : Nat) (hi : env[j]? = some (.own x)) (h : DeS c (env.set j (.val x)) b mk lk m) : DeS c env b mk lk m := .mk fun B0 H0 B H σ O D P => by
  obtain ⟨B1, O1, l⟩ := O.freezeG (β := Tri α β γ) (y := x) (φ := fun K B _ o => orep K B o x) j hi (fun a o B1 h l q => by
    obtain ⟨v1, v2, v3, e, r1, r2, r3⟩ := h
    exact ⟨a, v1, v2, v3, rfl, SqL.of (by rw [q, e]), Rep.mono l r1, Rep.mono l r2, Rep.mono l r3⟩)
  exact h B0 H0 B1 H σ O1 D (P.mono l)
theorem ds_setTri3 (j : Nat) {x : Str} {jc : Nat} {p1 p2 pc pos : Pos} {xs : Tri α β γ} {m : Option γ} {k : Tri α β γ → Fl S L R} (hj : env[j]? = some (.own xs)) (hN : c.N[j]? = some x) (hv : Vis c.sc x) (h : De c env e m) (g : ∀ ys, DeS c (env.set j (.own ys)) rest mk lk (k ys))
    (hd : (x == ("__debug__" : Str)) = false := by decide) (hcd : (x == ("__classdict__" : Str)) = false := by decide)
    (ha : ∀ env v, assign (.Subscript (.Name x p1) (.Constant (.int 2) jc pc) p2) env v = (do
      let ov ← holding [v] (eval (.Name x p1) env)
      let iv ← holding [v, ov] (eval (.Constant (.int 2) jc pc) env)
      standAt p2
      holding [v, ov, iv] (setItem ov iv v)
      release [v, ov, iv] []) := by intro _ _; rfl)
    (hs : ∀ env, swapsWithSole [.Subscript (.Name x p1) (.Constant (.int 2) jc pc) p2] e pos.line env = pure false := by intro _; rfl) (hw : ∀ env, swappedStores [.Subscript (.Name x p1) (.Constant (.int 2) jc pc) p2] e env = pure none := by intro _; rfl) (h1 : ∀ env, (assignEach [.Subscript (.Name x p1) (.Constant (.int 2) jc pc) p2] env).map (·.2) = [assign (.Subscript (.Name x p1) (.Constant (.int 2) jc pc) p2) env] := by intro _; rfl) :
    DeS c env (.Assign [.Subscript (.Name x p1) (.Constant (.int 2) jc pc) p2] e pos :: rest) mk lk (Fl.bindO m fun y => k ⟨xs.x1, xs.x2, y⟩) := .mk fun B0 H0 B H σ O D P => by
  obtain ⟨y, ey, P⟩ := post_bindO P
  obtain ⟨t, t1, t2⟩ := h
  refine cS_cons (fun X F => ps_asg (t1 X F) (pg_sub (pe_var (fits_ix F hN) (fits_vis F hv) hd hcd) pe_int set_list (ha _)) (hs _) (hw _) (h1 _)) ?_
  refine t2 y ey B H σ O.en _ fun v B1 H1 k1 rv => ?_
  have O1 := O.grow k1
  obtain ⟨a, ob, e1, e2, e3, v1, v2, v3, rfl, r1, r2, r3⟩ := O1.en.obj hj
  refine ⟨.ref a, e1, ?_⟩
  refine ⟨a, [v1, v2, v3], 2, 2, rfl, rfl, e2, rfl, ?_⟩
  exact g ⟨xs.x1, xs.x2, y⟩ B0 H0 B1 _ σ (O1.change (ψ := fun K B _ o => orep K B o (⟨xs.x1, xs.x2, y⟩ : Tri α β γ)) (hm' := fun _ _ _ _ _ e h => ORep.omono e h) j hj e1 (o' := .lst [v1, v2, v]) ⟨v1, v2, v, rfl, r1, r2, rv⟩) D (P.mono k1.b)
end
section
variable {c : Ct} {env : List Slot} {o e : Expr} {α : Type} [Dat α]
def idxD (xs : List α) (x : α) : Option Int := letI := Dat.dec (α := α); if (lay x && lay xs && decide (Dat.dep α ≤ 63)) = true then (xs.findIdx? fun y => decide (y = x)).map fun j => (j : Int) else none
theorem de_indexD {p2 p3 : Pos} {m : Option (List α)} {n : Option α} (h : De c env o m) (g : De c env e n)
    (hpe : ∀ X to t, Fits c X → PE X o to → PE X e t → PE X (.Call (.Attribute o "index" p2) [e] [] p3) (tBM X.K "list" (rIndexD X.K) to (tCons t tNil)) := by
      intro X to t F ho ht; exact pe_bm PySem.F.plainAttrs_list PySem.F.slot_list_index PySem.F.type_list_index (mt_indexD (fits_units65 F)) ho (pa_cons ht pa_nil)) :
    De c env (.Call (.Attribute o "index" p2) [e] [] p3) (m.bind fun xs => n.bind fun x => idxD xs x) := by
  letI := Dat.dec (α := α)
  obtain ⟨t, h1, h2⟩ := h
  obtain ⟨u, g1, g2⟩ := g
  refine ⟨tBM c.K "list" (rIndexD c.K) t (tCons u tNil), fun X F => by rw [← F.K]; exact hpe X t u F (h1 X F) (g1 X F), fun z hz B H σ E Q q => ?_⟩
  obtain ⟨xs, ex, hz⟩ := bind_some hz
  obtain ⟨x, ey, hz⟩ := bind_some hz
  unfold idxD at hz
  split at hz
  · rename_i hl
    obtain ⟨s1, s2⟩ := inD_shape hl
    cases hj : xs.findIdx? fun y => decide (y = x) with
    | none => rw [hj] at hz; cases hz
    | some j =>
      rw [hj] at hz
      cases hz
      obtain ⟨hjl, hjx, hjb⟩ := List.findIdx?_eq_some_iff_getElem.mp hj
      refine h2 xs ex B H σ E _ fun v B1 H1 k1 r => ?_
      have dx : Dp c.K B1 v (.list (xs.map Dat.toD)) := Dat.dp r
      obtain ⟨l, vs, rfl, sl, rr⟩ := r
      refine ⟨.inl ⟨rfl, _, k1.bh.l sl⟩, g2 x ey B1 H1 σ (E.grow k1) _ fun v2 B2 H2 k2 r2 => ?_⟩
      have r : rep c.K B1 (V.ref l) xs := ⟨l, vs, rfl, sl, rr⟩
      refine ⟨l, v2, Dat.toD x, xs.map Dat.toD, j, Dat.toD xs[j], rfl, rfl, Dat.dp (Rep.mono (k2.b.trans k2.bh) r), Dat.dp (Rep.mono k2.bh r2), s2, s1, ?_, ?_, fun k z' hk hz' => ?_, q _ B2 H2 (k1.trans k2) rfl⟩
      · rw [List.getElem?_map, List.getElem?_eq_getElem hjl]
        rfl
      · rw [Dat.eqv, hjx]
      · rw [List.getElem?_map] at hz'
        obtain ⟨y, ey2, rfl⟩ := Option.map_eq_some_iff.mp hz'
        have hkl : k < xs.length := (List.getElem?_eq_some_iff.mp ey2).1
        have e := (List.getElem?_eq_some_iff.mp ey2).2
        rw [Dat.eqv, ← e]
        have := hjb k hk
        cases q : decide (xs[k] = x) with
        | true => rw [q] at this; exact absurd rfl this
        | false => rfl
  · cases hz
end
section
variable {S L β : Type} [ORep β] {α : Type} [Rep α] {c : Ct} {env : List Slot} {rest : List Stmt} {e i : Expr} {mk : S → List Slot} {lk : L → List Slot}
theorem dsn_freeze {xs : List α} {m : Fl S L β} {b : List Stmt} (j : Nat) (hi : env[j]? = some (.own xs)) (h : DeSN c (env.set j (.val xs)) b mk lk m) : DeSN c env b mk lk m := .mk fun B0 H0 B H σ O D P => by
  obtain ⟨B1, O1, l⟩ := O.freeze j hi
  exact h B0 H0 B1 H σ O1 D (P.mono l)
theorem dsn_unpack {f : α → List Slot → List Slot} {is : List Nat} {tg : Expr} {pos : Pos} {m : Option α} {k : α → Fl S L β} (h : De c env e m) (hg : DeTg c tg f is) (g : ∀ x, DeSN c (f x env) rest mk lk (k x))
    (hs : ∀ env, swapsWithSole [tg] e pos.line env = pure false := by intro _; rfl) (hw : ∀ env, swappedStores [tg] e env = pure none := by intro _; rfl) (h1 : ∀ env, (assignEach [tg] env).map (·.2) = [assign tg env] := by intro _; rfl) :
    DeSN c env (.Assign [tg] e pos :: rest) mk lk (Fl.bindO m k) := .mk fun B0 H0 B H σ O D P => by
  obtain ⟨x, ex, P⟩ := postN_bindO P
  obtain ⟨t, e1, e2⟩ := h
  obtain ⟨w, g1, g2⟩ := hg
  refine cS_cons (fun X F => ps_asg (e1 X F) (g1 X F) (hs _) (hw _) (h1 _)) ?_
  refine e2 x ex B H σ O.en _ fun v B1 H1 k1 r => g2.run x env B1 H1 σ v (O.en.grow k1) r _ fun σ' E' _ kp no => ?_
  exact g x B0 H0 B1 H1 σ' ((O.grow k1).retarget E' kp no) D (P.mono k1.b)
theorem dsn_setItem (j : Nat) {x : Str} {p1 p2 pos : Pos} {xs : List α} {m : Option α} {n : Option Int} {k : List α → Fl S L β} (hj : env[j]? = some (.own xs)) (hN : c.N[j]? = some x) (hv : Vis c.sc x) (h : De c env e m) (hi : De c env i n) (g : ∀ ys, DeSN c (env.set j (.own ys)) rest mk lk (k ys))
    (hd : (x == ("__debug__" : Str)) = false := by decide) (hcd : (x == ("__classdict__" : Str)) = false := by decide)
    (ha : ∀ env v, assign (.Subscript (.Name x p1) i p2) env v = (do
      let ov ← holding [v] (eval (.Name x p1) env)
      let iv ← holding [v, ov] (eval i env)
      standAt p2
      holding [v, ov, iv] (setItem ov iv v)
      release [v, ov, iv] []) := by intro _ _; rfl)
    (hs : ∀ env, swapsWithSole [.Subscript (.Name x p1) i p2] e pos.line env = pure false := by intro _; rfl) (hw : ∀ env, swappedStores [.Subscript (.Name x p1) i p2] e env = pure none := by intro _; rfl) (h1 : ∀ env, (assignEach [.Subscript (.Name x p1) i p2] env).map (·.2) = [assign (.Subscript (.Name x p1) i p2) env] := by intro _; rfl) :
    DeSN c env (.Assign [.Subscript (.Name x p1) i p2] e pos :: rest) mk lk (Fl.bindO m fun y => Fl.bindO n fun z => Fl.bindO (ixN xs.length z) fun q => k (xs.set q y)) := .mk fun B0 H0 B H σ O D P => by
  obtain ⟨y, ey, P⟩ := postN_bindO P
  obtain ⟨z, ez, P⟩ := postN_bindO P
  obtain ⟨q, eq, P⟩ := postN_bindO P
  obtain ⟨t, t1, t2⟩ := h
  obtain ⟨u, u1, u2⟩ := hi
  refine cS_cons (fun X F => ps_asg (t1 X F) (pg_sub (pe_var (fits_ix F hN) (fits_vis F hv) hd hcd) (u1 X F) set_list (ha _)) (hs _) (hw _) (h1 _)) ?_
  refine t2 y ey B H σ O.en _ fun v B1 H1 k1 rv => ?_
  have O1 := O.grow k1
  obtain ⟨a, ob, e1, e2, e3, vs, rfl, r⟩ := O1.en.own hj
  refine ⟨.ref a, e1, ?_⟩
  refine u2 z ez B1 H1 σ O1.en _ fun w B2 H2 k2 rw2 => ?_
  cases rw2
  have O2 := O1.grow k2
  refine ⟨a, vs, z, q, rfl, rfl, k2.h a _ e2, by rw [r.len]; exact eq, ?_⟩
  exact g (xs.set q y) B0 H0 B2 _ σ (O2.change j hj e1 ⟨_, rfl, (r.mono k2.b).set q (Rep.mono k2.b rv)⟩) D (P.mono (k1.b.trans k2.b))
end
end Dn

set_option Elab.async false
set_option linter.all false
set_option maxRecDepth 100000
set_option maxHeartbeats 4000000
namespace Kt
open PySem PySem.Spec L2 Dn
open Rep (rep)
open ORep (orep)
def top (i : Nat) : Stmt := PySem.Challenge.pw_standingpowers_k51_whole_circuits_compar.main.body.getD i (.Pass ⟨0, 0, 0, 0⟩)
structure SpaceD (C : Addr) where
  prime : Int
  names : List Str
  count : Int
  tuples : List (Tup Int)
instance instSpace {C : Addr} : Rep (SpaceD C) := ⟨fun K B v x => ∃ a dx u1 u2 u3 u4, v = .ref a ∧ B a = some (.ins C dx [("prime", u1), ("names", u2), ("count", u3), ("_tuples", u4)]) ∧ rep K B u1 x.prime ∧ rep K B u2 x.names ∧ rep K B u3 x.count ∧ rep K B u4 x.tuples,
  fun e ⟨a, dx, u1, u2, u3, u4, h, s, r1, r2, r3, r4⟩ => ⟨a, dx, u1, u2, u3, u4, h, e a _ s, Rep.mono e r1, Rep.mono e r2, Rep.mono e r3, Rep.mono e r4⟩⟩
def fl_fields {C : Addr} (x : SpaceD C) : List (Str × Slot) := [("prime", .val x.prime), ("names", .val x.names), ("count", .val x.count), ("_tuples", .val x.tuples)]
theorem space_rep {K : PySem.W.Frag} {C : Addr} : ∀ (B : Hp) (a dx : Addr) (fs : List (Str × V)) (r : SpaceD C), B a = some (.ins C dx fs) → Pr2 (FldOk K B) fs (fl_fields r) → rep K B (.ref a) r := by
  intro B a dx fs r hB p
  unfold fl_fields at p
  cases p with
  | @cons x1 _ xs1 _ f1 p =>
    cases p with
    | @cons x2 _ xs2 _ f2 p =>
      cases p with
      | @cons x3 _ xs3 _ f3 p =>
        cases p with
        | @cons x4 _ xs4 _ f4 p =>
          cases p
          obtain ⟨n1, w1⟩ := x1
          obtain ⟨n2, w2⟩ := x2
          obtain ⟨n3, w3⟩ := x3
          obtain ⟨n4, w4⟩ := x4
          obtain ⟨e1, ⟨z1, q1, r1⟩, _⟩ := f1
          obtain ⟨e2, ⟨z2, q2, r2⟩, _⟩ := f2
          obtain ⟨e3, ⟨z3, q3, r3⟩, _⟩ := f3
          obtain ⟨e4, ⟨z4, q4, r4⟩, _⟩ := f4
          cases e1; cases e2; cases e3; cases e4
          cases q1; cases q2; cases q3; cases q4
          exact ⟨a, dx, _, _, _, _, rfl, hB, r1, r2, r3, r4⟩
structure CirD (G : Addr) where
  inputs : (List Str)
  gates : (List (Trp Str Str (Tup Str)))
  outputs : (List Str)
instance instCirD {G : Addr} : Rep (CirD G) := ⟨fun K B v x => ∃ a dx u1 u2 u3, v = .ref a ∧ B a = some (.ins G dx [("inputs", u1), ("gates", u2), ("outputs", u3)]) ∧ rep K B u1 x.inputs ∧ rep K B u2 x.gates ∧ rep K B u3 x.outputs,
  fun e ⟨a, dx, u1, u2, u3, h, s, r1, r2, r3⟩ => ⟨a, dx, u1, u2, u3, h, e a _ s, Rep.mono e r1, Rep.mono e r2, Rep.mono e r3⟩⟩
def fci_fields {G : Addr} (x : (CirD G)) : List (Str × Slot) := [("inputs", .val x.inputs), ("gates", .val x.gates), ("outputs", .val x.outputs)]
theorem circuit_rep {K : PySem.W.Frag} {G : Addr} : ∀ (B : Hp) (a dx : Addr) (fs : List (Str × V)) (r : (CirD G)), B a = some (.ins G dx fs) → Pr2 (FldOk K B) fs (fci_fields r) → rep K B (.ref a) r := by
  intro B a dx fs r hB p
  unfold fci_fields at p
  cases p with
  | @cons x1 _ xs1 _ f1 p =>
    cases p with
    | @cons x2 _ xs2 _ f2 p =>
      cases p with
      | @cons x3 _ xs3 _ f3 p =>
        cases p
        obtain ⟨n1, w1⟩ := x1
        obtain ⟨n2, w2⟩ := x2
        obtain ⟨n3, w3⟩ := x3
        obtain ⟨e1, ⟨z1, q1, r1⟩, _⟩ := f1
        obtain ⟨e2, ⟨z2, q2, r2⟩, _⟩ := f2
        obtain ⟨e3, ⟨z3, q3, r3⟩, _⟩ := f3
        cases e1; cases e2; cases e3
        cases q1; cases q2; cases q3
        exact ⟨a, dx, _, _, _, rfl, hB, r1, r2, r3⟩
abbrev s_number_raised : Stmt := top 11
abbrev s_is_name : Stmt := top 12
abbrev s_make_a_space : Stmt := top 13
abbrev s_tuples_in_order : Stmt := top 14
abbrev s_degree_of : Stmt := top 16
abbrev s_polynomial_of : Stmt := top 18
abbrev s_number_rows : Stmt := top 19
abbrev s_turned : Stmt := top 20
abbrev s_turned_once : Stmt := top 21
abbrev s_weighted_sum : Stmt := top 22
abbrev s_outputs_at : Stmt := top 25
abbrev s_gate_output : Stmt := top 26
abbrev s_polynomials_of : Stmt := top 27
abbrev s_compare_circuits : Stmt := top 28
abbrev s_law_cell : Stmt := top 30
abbrev s_law_digits : Stmt := top 31
abbrev s_law_points : Stmt := top 32
abbrev s_law_power_value : Stmt := top 33
abbrev s_law_value : Stmt := top 34
abbrev s_law_is_tuple_point : Stmt := top 35
abbrev s_law_is_polynomial : Stmt := top 36
abbrev s_law_gate_names : Stmt := top 37
abbrev s_law_circuit : Stmt := top 38
abbrev s_law_outputs : Stmt := top 39
abbrev s_law_otherwise : Stmt := top 40
abbrev s_law : Stmt := top 41
abbrev s_init : Stmt := inClass (top 15) 0
abbrev s_points : Stmt := inClass (top 15) 1
abbrev s_powers : Stmt := inClass (top 15) 2
abbrev s_ciinit : Stmt := inClass (top 24) 0
structure Tx (K : PySem.W.Frag) (mg : Str → Option Value) (C fI : Addr) (fdI : FuncData) (G fG : Addr) (fdG : FuncData) : Prop where
  number_raised : Tf K mg "number_raised" s_number_raised ["prime", "number", "exponent"]
  is_name : Tf K mg "is_name" s_is_name ["text"]
  make_a_space : Tf K mg "make_a_space" s_make_a_space ["prime", "names"]
  tuples_in_order : Tf K mg "tuples_in_order" s_tuples_in_order ["prime", "count"]
  degree_of : Tf K mg "degree_of" s_degree_of ["power"]
  polynomial_of : Tf K mg "polynomial_of" s_polynomial_of ["space", "table"]
  number_rows : Tf K mg "number_rows" s_number_rows ["prime"]
  turned : Tf K mg "turned" s_turned ["space", "rows", "numbers"]
  turned_once : Tf K mg "turned_once" s_turned_once ["prime", "rows", "numbers"]
  weighted_sum : Tf K mg "weighted_sum" s_weighted_sum ["prime", "weights", "parts"]
  outputs_at : Tf K mg "outputs_at" s_outputs_at ["circuit", "point"]
  gate_output : Tf K mg "gate_output" s_gate_output ["kind", "numbers"]
  polynomials_of : Tf K mg "polynomials_of" s_polynomials_of ["circuit"]
  compare_circuits : Tf K mg "compare_circuits" s_compare_circuits ["one", "other"]
  law_cell : Tf K mg "_law_cell" s_law_cell ["script", "k"]
  law_digits : Tf K mg "_law_digits" s_law_digits ["cell", "many", "count"]
  law_points : Tf K mg "_law_points" s_law_points ["prime", "count"]
  law_power_value : Tf K mg "_law_power_value" s_law_power_value ["prime", "power", "point"]
  law_value : Tf K mg "_law_value" s_law_value ["prime", "one", "point"]
  law_is_tuple_point : Tf K mg "_law_is_tuple_point" s_law_is_tuple_point ["prime", "count", "thing"]
  law_is_polynomial : Tf K mg "_law_is_polynomial" s_law_is_polynomial ["prime", "count", "thing"]
  law_gate_names : Tf K mg "_law_gate_names" s_law_gate_names ["cell"]
  law_circuit : Tf K mg "_law_circuit" s_law_circuit ["cell", "names", "inputs"]
  law_outputs : Tf K mg "_law_outputs" s_law_outputs ["circuit", "point"]
  law_otherwise : Tf K mg "_law_otherwise" s_law_otherwise ["circuit", "cell"]
  range : mg "range" = none
  len : mg "len" = none
  int : mg "int" = none
  all : mg "all" = none
  set : mg "set" = none
  list : mg "list" = none
  isinstance : mg "isinstance" = none
  sum : mg "sum" = none
  sorted : mg "sorted" = none
  zip : mg "zip" = none
  tuple : mg "tuple" = none
  min : mg "min" = none
  str : mg "str" = none
  mPRIMES : ∃ a, mg "PRIMES" = some (.ref a) ∧ ∀ B, rep K B (.ref a) (⟨[2, 3, 5, 7]⟩ : Tup Int)
  mLETTERS : ∃ t, mg "LETTERS" = some (.str "abcdefghijklmnopqrstuvwxyz" t)
  mLETTERS_AND_DIGITS : ∃ t, mg "LETTERS_AND_DIGITS" = some (.str "abcdefghijklmnopqrstuvwxyz0123456789" t)
  mLONGEST_NAME : ∃ t, mg "LONGEST_NAME" = some (.int 12 t)
  mMOST_UNKNOWNS : ∃ t, mg "MOST_UNKNOWNS" = some (.int 8 t)
  mMOST_POINTS : ∃ t, mg "MOST_POINTS" = some (.int 256 t)
  cls : Cls K C
  na1 : NoAttr K C "prime"
  na2 : NoAttr K C "names"
  na3 : NoAttr K C "count"
  na4 : NoAttr K C "_tuples"
  gS : mg "Space" = some (.ref C)
  mkC : Mk K C fI
  fInit : Fun K "__init__" "Space.__init__" s_init fI fdI
  binds : Binds K fdI ["self", "prime", "names"] []
  pts : Tm K C "points" "Space.points" s_points ["self"]
  pws : Tm K C "powers" "Space.powers" s_powers ["self", "order"]
  gcCi : mg "Circuit" = some (.ref G)
  mkCi : Mk K G fG
  fInitCi : Fun K "__init__" "Circuit.__init__" s_ciinit fG fdG
  bindsCi : Binds K fdG ["self", "inputs", "gates", "outputs"] []
  clsCi : Cls K G
  noCi_inputs : NoAttr K G "inputs"
  noCi_gates : NoAttr K G "gates"
  noCi_outputs : NoAttr K G "outputs"
  insCi : C8.InsC K G
section
variable {K : PySem.W.Frag} {mg : Str → Option Value} {c : Ct} {env : List Slot} {pos : Pos} {C fI : Addr} {fdI : FuncData} {G fG : Addr} {fdG : FuncData}
theorem Tx.PRIMES (T : Tx K mg C fI fdI G fG fdG) (hK : c.K = K := by rfl) (hm : c.mg = mg := by rfl) (hg : Gv c "PRIMES" := by rfl) : De c env (.Name "PRIMES" pos) (some (⟨[2, 3, 5, 7]⟩ : Tup Int)) := by
  obtain ⟨a, h1, h2⟩ := T.mPRIMES
  exact de_glob (v := .ref a) hg (by rw [hm]; exact h1) rfl (fun B => by rw [hK]; exact h2 B)
theorem Tx.LETTERS (T : Tx K mg C fI fdI G fG fdG) (hK : c.K = K := by rfl) (hm : c.mg = mg := by rfl) (hg : Gv c "LETTERS" := by rfl) : De c env (.Name "LETTERS" pos) (some ("abcdefghijklmnopqrstuvwxyz" : Str)) := by
  obtain ⟨t, h⟩ := T.mLETTERS
  exact de_glob (v := .str "abcdefghijklmnopqrstuvwxyz") hg (by rw [hm]; exact h) ⟨t, rfl⟩ (fun B => rfl)
theorem Tx.LETTERS_AND_DIGITS (T : Tx K mg C fI fdI G fG fdG) (hK : c.K = K := by rfl) (hm : c.mg = mg := by rfl) (hg : Gv c "LETTERS_AND_DIGITS" := by rfl) : De c env (.Name "LETTERS_AND_DIGITS" pos) (some ("abcdefghijklmnopqrstuvwxyz0123456789" : Str)) := by
  obtain ⟨t, h⟩ := T.mLETTERS_AND_DIGITS
  exact de_glob (v := .str "abcdefghijklmnopqrstuvwxyz0123456789") hg (by rw [hm]; exact h) ⟨t, rfl⟩ (fun B => rfl)
theorem Tx.LONGEST_NAME (T : Tx K mg C fI fdI G fG fdG) (hK : c.K = K := by rfl) (hm : c.mg = mg := by rfl) (hg : Gv c "LONGEST_NAME" := by rfl) : De c env (.Name "LONGEST_NAME" pos) (some (12 : Int)) := by
  obtain ⟨t, h⟩ := T.mLONGEST_NAME
  exact de_glob (v := .int 12) hg (by rw [hm]; exact h) ⟨t, rfl⟩ (fun B => rfl)
theorem Tx.MOST_UNKNOWNS (T : Tx K mg C fI fdI G fG fdG) (hK : c.K = K := by rfl) (hm : c.mg = mg := by rfl) (hg : Gv c "MOST_UNKNOWNS" := by rfl) : De c env (.Name "MOST_UNKNOWNS" pos) (some (8 : Int)) := by
  obtain ⟨t, h⟩ := T.mMOST_UNKNOWNS
  exact de_glob (v := .int 8) hg (by rw [hm]; exact h) ⟨t, rfl⟩ (fun B => rfl)
theorem Tx.MOST_POINTS (T : Tx K mg C fI fdI G fG fdG) (hK : c.K = K := by rfl) (hm : c.mg = mg := by rfl) (hg : Gv c "MOST_POINTS" := by rfl) : De c env (.Name "MOST_POINTS" pos) (some (256 : Int)) := by
  obtain ⟨t, h⟩ := T.mMOST_POINTS
  exact de_glob (v := .int 256) hg (by rw [hm]; exact h) ⟨t, rfl⟩ (fun B => rfl)
theorem Tx.sp_prime (T : Tx K mg C fI fdI G fG fdG) : HasF (α := SpaceD C) (β := Int) K "prime" (fun x => x.prime) := fun B v x ⟨a, dx, u1, u2, u3, u4, h, s, r1, r2, r3, r4⟩ => ⟨a, C, dx, _, u1, h, s, T.cls, T.na1, rfl, r1⟩
theorem Tx.sp_count (T : Tx K mg C fI fdI G fG fdG) : HasF (α := SpaceD C) (β := Int) K "count" (fun x => x.count) := fun B v x ⟨a, dx, u1, u2, u3, u4, h, s, r1, r2, r3, r4⟩ => ⟨a, C, dx, _, u3, h, s, T.cls, T.na3, rfl, r3⟩
theorem Tx.sp_tuples (T : Tx K mg C fI fdI G fG fdG) : HasF (α := SpaceD C) (β := List (Tup Int)) K "_tuples" (fun x => x.tuples) := fun B v x ⟨a, dx, u1, u2, u3, u4, h, s, r1, r2, r3, r4⟩ => ⟨a, C, dx, _, u4, h, s, T.cls, T.na4, rfl, r4⟩
end
section
variable {P : Program} {w : World} {K : PySem.W.Frag} {mg : Str → Option Value} {base : Heap} {C fI : Addr} {fdI : FuncData} {G fG : Addr} {fdG : FuncData}
theorem Tx.ci_inputs (T : Tx K mg C fI fdI G fG fdG) : HasF (α := (CirD G)) (β := (List Str)) K "inputs" (fun x => x.inputs) := fun B v x ⟨a, dx, u1, u2, u3, h, s, r1, r2, r3⟩ => ⟨a, G, dx, _, u1, h, s, T.clsCi, T.noCi_inputs, rfl, r1⟩
theorem Tx.ci_gates (T : Tx K mg C fI fdI G fG fdG) : HasF (α := (CirD G)) (β := (List (Trp Str Str (Tup Str)))) K "gates" (fun x => x.gates) := fun B v x ⟨a, dx, u1, u2, u3, h, s, r1, r2, r3⟩ => ⟨a, G, dx, _, u2, h, s, T.clsCi, T.noCi_gates, rfl, r2⟩
theorem Tx.ci_outputs (T : Tx K mg C fI fdI G fG fdG) : HasF (α := (CirD G)) (β := (List Str)) K "outputs" (fun x => x.outputs) := fun B v x ⟨a, dx, u1, u2, u3, h, s, r1, r2, r3⟩ => ⟨a, G, dx, _, u3, h, s, T.clsCi, T.noCi_outputs, rfl, r3⟩
theorem sc_is_name : FnScope ["text", "sign"] ["text"] (defScope s_is_name) := ⟨rfl, rfl, rfl, by decide +kernel, rfl, by decide +kernel, by decide +kernel⟩
def fl_is_name (p_text : Str) : Fl Unit Unit Bool := (Fl.bindO (orO (((chO (fun a_1 b_2 => some (decide (a_1 ≤ b_2))) (fun a_1 b_2 => some (decide (a_1 ≤ b_2))) (some (1 : Int)) (if len1 p_text.length = true then some (p_text.length : Int) else none) (some (12 : Int)))).bind fun v_3 => some (!v_3)) (((atS p_text (0 : Int))).bind fun v_4 => ((some ("abcdefghijklmnopqrstuvwxyz" : Str))).bind fun v_5 => ((inS v_4 v_5).map (!·)))) fun v_7 => Fl.bind (if v_7 = true then ((Fl.bindO (some false) fun r_6 => .rt r_6) : Fl Unit Unit Bool) else (.nx ())) fun s_8 => (Fl.bindO (((((some (signs p_text))).bind fun xs_10 => (capI xs_10).bind fun xs_10 => mapO (fun (i_9 : Str) => (inS i_9 ("abcdefghijklmnopqrstuvwxyz0123456789" : Str))) xs_10)).bind fun v_11 => some (v_11.all id)) fun r_12 => .rt r_12))
def m_is_name (p_text : Str) : Option Bool := (fl_is_name p_text).fin none
theorem b_is_name (T : Tx K mg C fI fdI G fG fdG) (p : Str × Unit) : DeS (ctOf P w K mg base 0 ["text", "sign"] (defScope s_is_name)) (Pk.sl p ++ List.replicate (2 - (Pk.sl p).length) .any) (defBody s_is_name) (fun _ : Unit => List.replicate 2 .any) (fun _ : Unit => []) (fl_is_name p.1) := by
  obtain ⟨p_text, _⟩ := p
  unfold fl_is_name
  exact (ds_if (jk := (fun (s : Unit) => ([.val (p_text : Str), .any] : List Slot))) (mt := (orO (((chO (fun a_1 b_2 => some (decide (a_1 ≤ b_2))) (fun a_1 b_2 => some (decide (a_1 ≤ b_2))) (some (1 : Int)) (if len1 p_text.length = true then some (p_text.length : Int) else none) (some (12 : Int)))).bind fun v_3 => some (!v_3)) (((atS p_text (0 : Int))).bind fun v_4 => ((some ("abcdefghijklmnopqrstuvwxyz" : Str))).bind fun v_5 => ((inS v_4 v_5).map (!·))))) (DeW.t (dw_or (dt_not (m := (chO (fun a_1 b_2 => some (decide (a_1 ≤ b_2))) (fun a_1 b_2 => some (decide (a_1 ≤ b_2))) (some (1 : Int)) (if len1 p_text.length = true then some (p_text.length : Int) else none) (some (12 : Int)))) (dt_chain (ma := (some (1 : Int))) (mb := (if len1 p_text.length = true then some (p_text.length : Int) else none)) (mc := (some (12 : Int))) (f := (fun a_1 b_2 => some (decide (a_1 ≤ b_2)))) (g := (fun a_1 b_2 => some (decide (a_1 ≤ b_2)))) cmp_le cmp_le de_int (de_lenS (m := (some p_text)) T.len (de_var 0 rfl rfl (by first | exact Or.inl rfl | exact Or.inr (Or.inl rfl) | exact Or.inr (Or.inr rfl)))) (T.LONGEST_NAME))) (dw_or1 (dt_c1 (ma := (atS p_text (0 : Int))) (mb := (some ("abcdefghijklmnopqrstuvwxyz" : Str))) (f := fun (x : Str) (y : Str) => ((inS x y).map (!·))) cmp_ninS (de_ixSP (de_var 0 rfl rfl (by first | exact Or.inl rfl | exact Or.inr (Or.inl rfl) | exact Or.inr (Or.inr rfl))) de_int) (T.LETTERS))))) (ds_ret (m := (some false)) de_bl) (ds_end (s := ()) (.same (.any .nil))) (fun s_8 => (ds_ret (m := (((((some (signs p_text))).bind fun xs_10 => (capI xs_10).bind fun xs_10 => mapO (fun (i_9 : Str) => (inS i_9 ("abcdefghijklmnopqrstuvwxyz0123456789" : Str))) xs_10)).bind fun v_11 => some (v_11.all id))) (de_all (m := (((some (signs p_text))).bind fun xs_10 => (capI xs_10).bind fun xs_10 => mapO (fun (i_9 : Str) => (inS i_9 ("abcdefghijklmnopqrstuvwxyz0123456789" : Str))) xs_10)) T.all (DeN.l (dn_comp (own := [("sign", 1)]) sc_is_name.nd (di_str (m := (some p_text)) (de_var 0 rfl rfl (by first | exact Or.inl rfl | exact Or.inr (Or.inl rfl) | exact Or.inr (Or.inr rfl)))) (blkOk_by (by dsimp only [ctOf, Ct.blk]; decide +kernel)) (dg_name 1 sc_is_name.nd rfl (by first | exact Or.inl rfl | exact Or.inr rfl) (by first | exact Or.inl rfl | exact Or.inr rfl)) (by decide) (fun i_9 => (de_cP (f := fun (x : Str) (y : Str) => (inS x y)) cmp_inS (de_var 1 rfl rfl (by first | exact Or.inl rfl | exact Or.inr (Or.inl rfl) | exact Or.inr (Or.inr rfl))) (T.LETTERS_AND_DIGITS)))))))))
theorem g_is_name (T : Tx K mg C fI fdI G fG fdG) : Gd P w K mg base 1 "is_name" (fun p : Str × Unit => m_is_name p.1) := T.is_name.gd sc_is_name (by decide) (fun _ => rfl) (fun _ h => nomatch h) (b_is_name T)

theorem sc_make_a_space : FnScope ["prime", "names", "many", "_", "name"] ["prime", "names"] (defScope s_make_a_space) := ⟨rfl, rfl, rfl, by decide +kernel, rfl, by decide +kernel, by decide +kernel⟩
def fl_make_a_space (p_prime : Int) (p_names : (List Str)) : Fl Unit Unit Bool := (Fl.bindO (orO (some (!decide (p_prime ∈ (⟨[2, 3, 5, 7]⟩ : Tup Int).l))) (((chO (fun a_13 b_14 => some (decide (a_13 ≤ b_14))) (fun a_13 b_14 => some (decide (a_13 ≤ b_14))) (some (1 : Int)) (some (p_names.length : Int)) (some (8 : Int)))).bind fun v_15 => some (!v_15))) fun v_17 => Fl.bind (if v_17 = true then ((Fl.bindO (some false) fun r_16 => .rt r_16) : Fl Unit Unit Bool) else (.nx ())) fun s_18 => (Fl.bindO (orO (((if p_names.length ≤ 4000 then some ((uniq p_names).length : Int) else none)).bind fun v_19 => ((some (p_names.length : Int))).bind fun v_20 => some (decide (v_19 < v_20))) (((((((some p_names)).bind fun xs_22 => (capI xs_22).bind fun xs_22 => mapO (fun (i_21 : Str) => (m_is_name i_21)) xs_22)).bind fun v_23 => some (v_23.all id))).bind fun v_24 => some (!v_24))) fun v_26 => Fl.bind (if v_26 = true then ((Fl.bindO (some false) fun r_25 => .rt r_25) : Fl Unit Unit Bool) else (.nx ())) fun s_27 => (Fl.bindO (some (1 : Int)) fun many_28 => (Fl.bindO (some p_names) fun xs_34 => Fl.bind (Fl.loop (fun (i_30 : Str) (s_29 : (Int)) => ((Fl.bindO (mulI s_29 p_prime) fun many_31 => (.nx many_31)) : Fl (Int) (Int) Bool)) xs_34 many_28 : Fl (Int) Unit Bool) fun s_32 => (Fl.bindO (some (decide (s_32 ≤ (256 : Int)))) fun r_33 => .rt r_33)))))
def m_make_a_space (p_prime : Int) (p_names : (List Str)) : Option Bool := (fl_make_a_space p_prime p_names).fin none
theorem b_make_a_space (T : Tx K mg C fI fdI G fG fdG) (p : Int × (List Str) × Unit) : DeS (ctOf P w K mg base 1 ["prime", "names", "many", "_", "name"] (defScope s_make_a_space)) (Pk.sl p ++ List.replicate (5 - (Pk.sl p).length) .any) (defBody s_make_a_space) (fun _ : Unit => List.replicate 5 .any) (fun _ : Unit => []) (fl_make_a_space p.1 p.2.1) := by
  obtain ⟨p_prime, p_names, _⟩ := p
  unfold fl_make_a_space
  exact (ds_if (jk := (fun (s : Unit) => ([.val (p_prime : Int), .val (p_names : (List Str)), .any, .any, .any] : List Slot))) (mt := (orO (some (!decide (p_prime ∈ (⟨[2, 3, 5, 7]⟩ : Tup Int).l))) (((chO (fun a_13 b_14 => some (decide (a_13 ≤ b_14))) (fun a_13 b_14 => some (decide (a_13 ≤ b_14))) (some (1 : Int)) (some (p_names.length : Int)) (some (8 : Int)))).bind fun v_15 => some (!v_15)))) (DeW.t (dw_or (dt_c1P (f := fun (x : Int) (y : (Tup Int)) => some (!decide (x ∈ y.l))) cmp_ninU (de_var 0 rfl rfl (by first | exact Or.inl rfl | exact Or.inr (Or.inl rfl) | exact Or.inr (Or.inr rfl))) T.PRIMES) (dw_or1 (dt_not (m := (chO (fun a_13 b_14 => some (decide (a_13 ≤ b_14))) (fun a_13 b_14 => some (decide (a_13 ≤ b_14))) (some (1 : Int)) (some (p_names.length : Int)) (some (8 : Int)))) (dt_chain (ma := (some (1 : Int))) (mb := (some (p_names.length : Int))) (mc := (some (8 : Int))) (f := (fun a_13 b_14 => some (decide (a_13 ≤ b_14)))) (g := (fun a_13 b_14 => some (decide (a_13 ≤ b_14)))) cmp_le cmp_le de_int (de_lenLP  T.len (De.l (de_var 1 rfl rfl (by first | exact Or.inl rfl | exact Or.inr (Or.inl rfl) | exact Or.inr (Or.inr rfl))))) (T.MOST_UNKNOWNS)))))) (ds_ret (m := (some false)) de_bl) (ds_end (s := ()) (.same (.same (.any (.any (.any .nil)))))) (fun s_18 => (ds_if (jk := (fun (s : Unit) => ([.val (p_prime : Int), .val (p_names : (List Str)), .any, .any, .any] : List Slot))) (mt := (orO (((if p_names.length ≤ 4000 then some ((uniq p_names).length : Int) else none)).bind fun v_19 => ((some (p_names.length : Int))).bind fun v_20 => some (decide (v_19 < v_20))) (((((((some p_names)).bind fun xs_22 => (capI xs_22).bind fun xs_22 => mapO (fun (i_21 : Str) => (m_is_name i_21)) xs_22)).bind fun v_23 => some (v_23.all id))).bind fun v_24 => some (!v_24)))) (DeW.t (dw_or (dt_c1 (ma := (if p_names.length ≤ 4000 then some ((uniq p_names).length : Int) else none)) (mb := (some (p_names.length : Int))) (f := fun (x : Int) (y : Int) => some (decide (x < y))) cmp_lt (de_lenSet T.len T.set (De.l (de_var 1 rfl rfl (by first | exact Or.inl rfl | exact Or.inr (Or.inl rfl) | exact Or.inr (Or.inr rfl))))) (de_lenLP  T.len (De.l (de_var 1 rfl rfl (by first | exact Or.inl rfl | exact Or.inr (Or.inl rfl) | exact Or.inr (Or.inr rfl)))))) (dw_or1 (dt_not (m := (((((some p_names)).bind fun xs_22 => (capI xs_22).bind fun xs_22 => mapO (fun (i_21 : Str) => (m_is_name i_21)) xs_22)).bind fun v_23 => some (v_23.all id))) (dt_of (m := (((((some p_names)).bind fun xs_22 => (capI xs_22).bind fun xs_22 => mapO (fun (i_21 : Str) => (m_is_name i_21)) xs_22)).bind fun v_23 => some (v_23.all id))) (de_all (m := (((some p_names)).bind fun xs_22 => (capI xs_22).bind fun xs_22 => mapO (fun (i_21 : Str) => (m_is_name i_21)) xs_22)) T.all (DeN.l (dn_comp (own := [("name", 4)]) sc_make_a_space.nd (di_list (m := (some p_names)) (de_var 1 rfl rfl (by first | exact Or.inl rfl | exact Or.inr (Or.inl rfl) | exact Or.inr (Or.inr rfl)))) (blkOk_by (by dsimp only [ctOf, Ct.blk]; decide +kernel)) (dg_name 4 sc_make_a_space.nd rfl (by first | exact Or.inl rfl | exact Or.inr rfl) (by first | exact Or.inl rfl | exact Or.inr rfl)) (by decide) (fun i_21 => (de_call1P (a1 := i_21) (f := fun p : Str × Unit => m_is_name p.1) ((g_is_name T).df) (de_var 4 rfl rfl (by first | exact Or.inl rfl | exact Or.inr (Or.inl rfl) | exact Or.inr (Or.inr rfl))))))))))))) (ds_ret (m := (some false)) de_bl) (ds_end (s := ()) (.same (.same (.any (.any (.any .nil)))))) (fun s_27 => (ds_set (i := 2) (as_e (m := (some (1 : Int))) 2 de_int sc_make_a_space.nd rfl (by first | exact Or.inl rfl | exact Or.inr rfl) (by first | exact Or.inl rfl | exact Or.inr rfl) (fun _ _ => rfl)) (fun many_28 => (ds_for (sk := (fun (s : (Int)) => ([.val (p_prime : Int), .val (p_names : (List Str)), .val (s : Int), .any, .any] : List Slot))) (s0 := many_28) (di_list (m := (some p_names)) (de_var 1 rfl rfl (by first | exact Or.inl rfl | exact Or.inr (Or.inl rfl) | exact Or.inr (Or.inr rfl)))) (dg_name 3 sc_make_a_space.nd rfl (by first | exact Or.inl rfl | exact Or.inr rfl) (by first | exact Or.inl rfl | exact Or.inr rfl)) (.same (.same (.same (.any (.any .nil))))) (fun i_30 s_29 => (ds_set (i := 2) (as_e (m := (mulI s_29 p_prime)) 2 (de_mulP (de_var 2 rfl rfl (by first | exact Or.inl rfl | exact Or.inr (Or.inl rfl) | exact Or.inr (Or.inr rfl))) (de_var 0 rfl rfl (by first | exact Or.inl rfl | exact Or.inr (Or.inl rfl) | exact Or.inr (Or.inr rfl)))) sc_make_a_space.nd rfl (by first | exact Or.inl rfl | exact Or.inr rfl) (by first | exact Or.inl rfl | exact Or.inr rfl) (fun _ _ => rfl)) (fun many_31 => (ds_end (s := many_31) (.same (.same (.same (.any (.any .nil))))))))) (fun s_32 => (ds_ret (m := (some (decide (s_32 ≤ (256 : Int))))) (de_cP (f := fun (x : Int) (y : Int) => some (decide (x ≤ y))) cmp_le (de_var 2 rfl rfl (by first | exact Or.inl rfl | exact Or.inr (Or.inl rfl) | exact Or.inr (Or.inr rfl))) (T.MOST_POINTS)))))))))))
theorem g_make_a_space (T : Tx K mg C fI fdI G fG fdG) : Gd P w K mg base 2 "make_a_space" (fun p : Int × (List Str) × Unit => m_make_a_space p.1 p.2.1) := T.make_a_space.gd sc_make_a_space (by decide) (fun _ => rfl) (fun _ h => nomatch h) (b_make_a_space T)

theorem sc_tuples_in_order : FnScope ["prime", "count", "tuples", "_", "start", "number"] ["prime", "count"] (defScope s_tuples_in_order) := ⟨rfl, rfl, rfl, by decide +kernel, rfl, by decide +kernel, by decide +kernel⟩
def fl_tuples_in_order (p_prime : Int) (p_count : Int) : Fl Unit Unit (List (Tup Int)) := (Fl.bindO (some ([(⟨([] : List Int)⟩ : Tup Int)] : List (Tup Int))) fun tuples_35 => (Fl.bindO (rangeI p_count) fun xs_44 => Fl.bind (Fl.loop (fun (i_37 : Int) (s_36 : ((List (Tup Int)))) => ((Fl.bindO (((some s_36)).bind fun xs_41 => (mapO2 (fun (i_39 : (Tup Int)) => (rangeI p_prime)) (fun (i_39 : (Tup Int)) (j_40 : Int) => (catU i_39 (⟨([j_40] : List Int)⟩ : Tup Int))) xs_41).bind capI) fun tuples_38 => (.nx tuples_38)) : Fl ((List (Tup Int))) ((List (Tup Int))) (List (Tup Int)))) xs_44 tuples_35 : Fl ((List (Tup Int))) Unit (List (Tup Int))) fun s_42 => (Fl.bindO (some s_42) fun r_43 => .rt r_43)))
def m_tuples_in_order (p_prime : Int) (p_count : Int) : Option (List (Tup Int)) := (fl_tuples_in_order p_prime p_count).fin none
theorem b_tuples_in_order (T : Tx K mg C fI fdI G fG fdG) (p : Int × Int × Unit) : DeS (ctOf P w K mg base 0 ["prime", "count", "tuples", "_", "start", "number"] (defScope s_tuples_in_order)) (Pk.sl p ++ List.replicate (6 - (Pk.sl p).length) .any) (defBody s_tuples_in_order) (fun _ : Unit => List.replicate 6 .any) (fun _ : Unit => []) (fl_tuples_in_order p.1 p.2.1) := by
  obtain ⟨p_prime, p_count, _⟩ := p
  unfold fl_tuples_in_order
  exact (ds_set (i := 2) (as_e (m := (some ([(⟨([] : List Int)⟩ : Tup Int)] : List (Tup Int)))) 2 (DeN.de (dn_lstP (di_consP (de_tupHP di_nil) di_nil))) sc_tuples_in_order.nd rfl (by first | exact Or.inl rfl | exact Or.inr rfl) (by first | exact Or.inl rfl | exact Or.inr rfl) (fun _ _ => rfl)) (fun tuples_35 => (ds_for (sk := (fun (s : ((List (Tup Int)))) => ([.val (p_prime : Int), .val (p_count : Int), .val (s : (List (Tup Int))), .any, .any, .any] : List Slot))) (s0 := tuples_35) (di_rangeP  T.range (de_var 1 rfl rfl (by first | exact Or.inl rfl | exact Or.inr (Or.inl rfl) | exact Or.inr (Or.inr rfl)))) (dg_name 3 sc_tuples_in_order.nd rfl (by first | exact Or.inl rfl | exact Or.inr rfl) (by first | exact Or.inl rfl | exact Or.inr rfl)) (.same (.same (.same (.any (.any (.any .nil)))))) (fun i_37 s_36 => (ds_set (i := 2) (AsN.toE (by first | exact (as_comp2 (own := [("start", 4), ("number", 5)]) (vs1 := [5]) 2 sc_tuples_in_order.nd rfl rfl rfl (by decide +kernel) (by decide +kernel) (di_list (m := (some s_36)) (de_var 2 rfl rfl (by first | exact Or.inl rfl | exact Or.inr (Or.inl rfl) | exact Or.inr (Or.inr rfl)))) (blkOk_by (by dsimp only [ctOf, Ct.blk]; decide +kernel)) (by decide) (dg_name 4 sc_tuples_in_order.nd rfl (by first | exact Or.inl rfl | exact Or.inr rfl) (by first | exact Or.inl rfl | exact Or.inr rfl)) (by decide) (fun i_39 => (di_rangeP  T.range (de_var 0 rfl rfl (by first | exact Or.inl rfl | exact Or.inr (Or.inl rfl) | exact Or.inr (Or.inr rfl))))) (dg_name 5 sc_tuples_in_order.nd rfl (by first | exact Or.inl rfl | exact Or.inr rfl) (by first | exact Or.inl rfl | exact Or.inr rfl)) (by decide) (fun i_39 j_40 => (de_catUP (de_var 4 rfl rfl (by first | exact Or.inl rfl | exact Or.inr (Or.inl rfl) | exact Or.inr (Or.inr rfl))) (de_tupHP (di_consP (de_var 5 rfl rfl (by first | exact Or.inl rfl | exact Or.inr (Or.inl rfl) | exact Or.inr (Or.inr rfl))) di_nil))))) | exact (as_n 2 (dn_comp2 (own := [("start", 4), ("number", 5)]) (vs1 := [5]) sc_tuples_in_order.nd (di_list (m := (some s_36)) (de_var 2 rfl rfl (by first | exact Or.inl rfl | exact Or.inr (Or.inl rfl) | exact Or.inr (Or.inr rfl)))) (blkOk_by (by dsimp only [ctOf, Ct.blk]; decide +kernel)) (by decide) (dg_name 4 sc_tuples_in_order.nd rfl (by first | exact Or.inl rfl | exact Or.inr rfl) (by first | exact Or.inl rfl | exact Or.inr rfl)) (by decide) (fun i_39 => (di_rangeP  T.range (de_var 0 rfl rfl (by first | exact Or.inl rfl | exact Or.inr (Or.inl rfl) | exact Or.inr (Or.inr rfl))))) (dg_name 5 sc_tuples_in_order.nd rfl (by first | exact Or.inl rfl | exact Or.inr rfl) (by first | exact Or.inl rfl | exact Or.inr rfl)) (by decide) (fun i_39 j_40 => (de_catUP (de_var 4 rfl rfl (by first | exact Or.inl rfl | exact Or.inr (Or.inl rfl) | exact Or.inr (Or.inr rfl))) (de_tupHP (di_consP (de_var 5 rfl rfl (by first | exact Or.inl rfl | exact Or.inr (Or.inl rfl) | exact Or.inr (Or.inr rfl))) di_nil))))) sc_tuples_in_order.nd rfl (by first | exact Or.inl rfl | exact Or.inr rfl) (by first | exact Or.inl rfl | exact Or.inr rfl) (sw_cell rfl)))) (fun tuples_38 => (ds_end (s := tuples_38) (.same (.same (.same (.any (.any (.any .nil)))))))))) (fun s_42 => (ds_ret (m := (some s_42)) (de_var 2 rfl rfl (by first | exact Or.inl rfl | exact Or.inr (Or.inl rfl) | exact Or.inr (Or.inr rfl))))))))
theorem g_tuples_in_order (T : Tx K mg C fI fdI G fG fdG) : Gd P w K mg base 1 "tuples_in_order" (fun p : Int × Int × Unit => m_tuples_in_order p.1 p.2.1) := T.tuples_in_order.gd sc_tuples_in_order (by decide) (fun _ => rfl) (fun _ h => nomatch h) (b_tuples_in_order T)

theorem fldNo (T : Tx K mg C fI fdI G fG fdG) {x : Str} (h : ∀ u1 u2 u3 u4 : V, ([("prime", u1), ("names", u2), ("count", u3), ("_tuples", u4)] : List (Str × V)).lookup x = none) : FldNo K C (SpaceD C) x := fun B v y ⟨a, dx, u1, u2, u3, u4, hv, s, _⟩ => ⟨a, dx, _, hv, s, h u1 u2 u3 u4⟩

theorem sc_init : FnScope ["self", "prime", "names"] ["self", "prime", "names"] (defScope s_init) := ⟨rfl, rfl, rfl, by decide +kernel, rfl, by decide +kernel, by decide +kernel⟩
def fl_init (C : Addr) (p : Int) (ns : List Str) : Fl (SpaceD C) Unit Unit :=
  Fl.bindO ((m_make_a_space p ns).bind fun v => some (!v)) fun v => Fl.bind (if v = true then (.err : Fl Unit Unit Unit) else .nx ()) fun _ => Fl.bindO (some p) fun y1 => Fl.bindO (some ns) fun y2 => Fl.bindO (some (ns.length : Int)) fun y3 => Fl.bindO (m_tuples_in_order p (ns.length : Int)) fun y4 => .nx ⟨y1, y2, y3, y4⟩
theorem b_init (T : Tx K mg C fI fdI G fG fdG) (q : Int × List Str × Unit) (y : Addr) : DeS (ctOf P w K mg base 2 ["self", "prime", "names"] (defScope s_init)) (.ins C y [] :: (Pk.sl q ++ List.replicate (3 - (Pk.sl q).length - 1) .any)) (defBody s_init) (fun s : SpaceD C => [.ins C y (fl_fields s), .any, .any]) (fun _ : Unit => []) (fl_init C q.1 q.2.1) := by
  obtain ⟨p, ns, _⟩ := q
  unfold fl_init
  refine ds_if (jk := fun _ : Unit => [.ins C y [], .val p, .val ns]) (mt := (m_make_a_space p ns).bind fun v => some (!v)) (dt_not (dt_of (de_call2P (a1 := p) (a2 := ns) (f := fun p : Int × List Str × Unit => m_make_a_space p.1 p.2.1) ((g_make_a_space T).df) (de_var 1 rfl rfl (Or.inl rfl)) (de_var 2 rfl rfl (Or.inl rfl))))) ds_err (ds_end (s := ()) (.same (.same (.same .nil)))) (fun _ => ?_)
  refine ds_fld (l := []) 0 rfl rfl (Or.inl rfl) T.cls T.na1 (Nat.le_of_ble_eq_true rfl) (by dsimp only [List.map]; decide) (de_var 1 rfl rfl (Or.inl rfl)) (fun y1 => ?_) (fun _ _ => rfl)
  refine ds_fld (l := [("prime", .val y1)]) 0 rfl rfl (Or.inl rfl) T.cls T.na2 (Nat.le_of_ble_eq_true rfl) (by dsimp only [List.map]; decide) (DeN.de (dn_list T.list (De.l (de_var 2 rfl rfl (Or.inl rfl))))) (fun y2 => ?_) (fun _ _ => rfl)
  refine ds_fld (l := [("prime", .val y1), ("names", .val y2)]) 0 rfl rfl (Or.inl rfl) T.cls T.na3 (Nat.le_of_ble_eq_true rfl) (by dsimp only [List.map]; decide) (de_lenLP T.len (De.l (de_var 2 rfl rfl (Or.inl rfl)))) (fun y3 => ?_) (fun _ _ => rfl)
  refine ds_fld (m := m_tuples_in_order p (ns.length : Int)) (l := [("prime", .val y1), ("names", .val y2), ("count", .val y3)]) 0 rfl rfl (Or.inl rfl) T.cls T.na4 (Nat.le_of_ble_eq_true rfl) (by dsimp only [List.map]; decide) ?a4 (fun y4 => ?b4) (fun _ _ => rfl)
  case a4 => exact de_call2P (a1 := p) (a2 := (ns.length : Int)) (f := fun p : Int × Int × Unit => m_tuples_in_order p.1 p.2.1) ((g_tuples_in_order T).df) (de_var 1 rfl rfl (Or.inl rfl)) (de_lenLP T.len (De.l (de_var 2 rfl rfl (Or.inl rfl))))
  case b4 => exact ds_end (s := (⟨y1, y2, y3, y4⟩ : SpaceD C)) (.same (.any (.any .nil)))
def m_space (C : Addr) (p : Int) (ns : List Str) : Option (SpaceD C) := initG id (fl_init C p ns)
theorem g_space (T : Tx K mg C fI fdI G fG fdG) : Gk P w K mg base 3 "Space" C (fl_fields (C := C)) (fun q : Int × List Str × Unit => m_space C q.1 q.2.1) :=
  ⟨fI, fdI, _, init_okG (P := P) (w := w) (mg := mg) (base := base) (C := C) (fl := fl_fields) (k := 2) (mk := fun y s => [.ins C y (fl_fields s), .any, .any]) (lk := fun _ : Unit => []) (m := fun q : Int × List Str × Unit => fl_init C q.1 q.2.1) (r := id) T.fInit sc_init (by decide) (fun _ => rfl) (fun _ _ => rfl) (fun q y => b_init T q y), T.gS, T.mkC, T.binds⟩

theorem sc_points : FnScope ["self"] ["self"] (defScope s_points) := ⟨rfl, rfl, rfl, by decide +kernel, rfl, by decide +kernel, by decide +kernel⟩
def fl_points (x : SpaceD C) : Fl Unit Unit (List (Tup Int)) := Fl.bindO (some x.tuples) fun r => .rt r
def m_points (x : SpaceD C) : Option (List (Tup Int)) := (fl_points x).fin none
theorem b_points (T : Tx K mg C fI fdI G fG fdG) (p : SpaceD C × Unit) : DeSN (ctOf P w K mg base 0 ["self"] (defScope s_points)) (Pk.sl p ++ List.replicate (1 - (Pk.sl p).length) .any) (defBody s_points) (fun _ : Unit => List.replicate 1 .any) (fun _ : Unit => []) (fl_points p.1) := by
  obtain ⟨x, _⟩ := p
  unfold fl_points
  exact dsn_ret (m := some x.tuples) (dn_list T.list (De.l (de_fldP (x := x) T.sp_tuples (de_var 0 rfl rfl (Or.inl rfl)))))
theorem g_points (T : Tx K mg C fI fdI G fG fdG) : GmN P w K mg base 1 (SpaceD C) "points" (fun p : SpaceD C × Unit => m_points p.1) := T.pts.gmN T.cls (fldNo T fun _ _ _ _ => rfl) sc_points (by decide) (fun _ => rfl) (b_points T)

theorem sc_degree_of : FnScope ["power"] ["power"] (defScope s_degree_of) := ⟨rfl, rfl, rfl, by decide +kernel, rfl, by decide +kernel, by decide +kernel⟩
theorem sc_powers : FnScope ["self", "order"] ["self", "order"] (defScope s_powers) := ⟨rfl, rfl, rfl, by decide +kernel, rfl, by decide +kernel, by decide +kernel⟩
def fl_powers (x : SpaceD C) (o : Str) : Fl Unit Unit (List (Tup Int)) := Fl.bindO (some (decide (o = ("lex" : Str)))) fun v => Fl.bind (if v = true then ((Fl.bindO (some x.tuples) fun r => .rt r) : Fl Unit Unit (List (Tup Int))) else (.nx ())) fun _ => Fl.bindO (if x.tuples.length ≤ 100000 then some (sortS x.tuples) else none) fun r => .rt r
def m_powers (x : SpaceD C) (o : Str) : Option (List (Tup Int)) := (fl_powers x o).fin none
theorem b_powers (T : Tx K mg C fI fdI G fG fdG) (p : SpaceD C × Str × Unit) : DeSN (ctOf P w K mg base 1 ["self", "order"] (defScope s_powers)) (Pk.sl p ++ List.replicate (2 - (Pk.sl p).length) .any) (defBody s_powers) (fun _ : Unit => List.replicate 2 .any) (fun _ : Unit => []) (fl_powers p.1 p.2.1) := by
  obtain ⟨x, o, _⟩ := p
  unfold fl_powers
  refine dsn_if (jk := fun _ : Unit => [.val x, .val o]) (mt := some (decide (o = ("lex" : Str)))) (dt_c1 cmp_eqS (de_var 1 rfl rfl (Or.inl rfl)) de_str) ?a (dsn_end (s := ()) (.same (.same .nil))) (fun _ => ?b)
  case a => exact dsn_ret (m := some x.tuples) (dn_list T.list (De.l (de_fldP (x := x) T.sp_tuples (de_var 0 rfl rfl (Or.inl rfl)))))
  case b => exact dsn_ret (m := if x.tuples.length ≤ 100000 then some (sortS x.tuples) else none) (dn_sortedKS (m := some x.tuples) T.degree_of sc_degree_of rfl rfl rfl T.sum T.sorted (De.l (de_fldP (x := x) T.sp_tuples (de_var 0 rfl rfl (Or.inl rfl)))))
theorem g_powers (T : Tx K mg C fI fdI G fG fdG) : GmN P w K mg base 2 (SpaceD C) "powers" (fun p : SpaceD C × Str × Unit => m_powers p.1 p.2.1) := T.pws.gmN T.cls (fldNo T fun _ _ _ _ => rfl) sc_powers (by decide) (fun _ => rfl) (b_powers T)


theorem sc_number_raised : FnScope ["prime", "number", "exponent", "product", "_"] ["prime", "number", "exponent"] (defScope s_number_raised) := ⟨rfl, rfl, rfl, by decide +kernel, rfl, by decide +kernel, by decide +kernel⟩
def fl_number_raised (p_prime : Int) (p_number : Int) (p_exponent : Int) : Fl Unit Unit Int := (Fl.bindO (some (1 : Int)) fun product_46 => (Fl.bindO (rangeI p_exponent) fun xs_54 => Fl.bind (Fl.loop (fun (i_48 : Int) (s_47 : (Int)) => ((Fl.bindO (((mulI s_47 p_number)).bind fun v_50 => ((some p_prime)).bind fun v_51 => (modI v_50 v_51)) fun product_49 => (.nx product_49)) : Fl (Int) (Int) Int)) xs_54 product_46 : Fl (Int) Unit Int) fun s_52 => (Fl.bindO (some s_52) fun r_53 => .rt r_53)))
def m_number_raised (p_prime : Int) (p_number : Int) (p_exponent : Int) : Option Int := (fl_number_raised p_prime p_number p_exponent).fin none
theorem b_number_raised (T : Tx K mg C fI fdI G fG fdG) (p : Int × Int × Int × Unit) : DeS (ctOf P w K mg base 0 ["prime", "number", "exponent", "product", "_"] (defScope s_number_raised)) (Pk.sl p ++ List.replicate (5 - (Pk.sl p).length) .any) (defBody s_number_raised) (fun _ : Unit => List.replicate 5 .any) (fun _ : Unit => []) (fl_number_raised p.1 p.2.1 p.2.2.1) := by
  obtain ⟨p_prime, p_number, p_exponent, _⟩ := p
  unfold fl_number_raised
  exact (ds_set (i := 3) (as_e (m := (some (1 : Int))) 3 de_int sc_number_raised.nd rfl (by first | exact Or.inl rfl | exact Or.inr rfl) (by first | exact Or.inl rfl | exact Or.inr rfl) (fun _ _ => rfl)) (fun product_46 => (ds_for (sk := (fun (s : (Int)) => ([.val (p_prime : Int), .val (p_number : Int), .val (p_exponent : Int), .val (s : Int), .any] : List Slot))) (s0 := product_46) (di_rangeP  T.range (de_var 2 rfl rfl (by first | exact Or.inl rfl | exact Or.inr (Or.inl rfl) | exact Or.inr (Or.inr rfl)))) (dg_name 4 sc_number_raised.nd rfl (by first | exact Or.inl rfl | exact Or.inr rfl) (by first | exact Or.inl rfl | exact Or.inr rfl)) (.same (.same (.same (.same (.any .nil))))) (fun i_48 s_47 => (ds_set (i := 3) (as_e (m := (((mulI s_47 p_number)).bind fun v_50 => ((some p_prime)).bind fun v_51 => (modI v_50 v_51))) 3 (de_mod (ma := (mulI s_47 p_number)) (mb := (some p_prime)) (de_mulP (de_var 3 rfl rfl (by first | exact Or.inl rfl | exact Or.inr (Or.inl rfl) | exact Or.inr (Or.inr rfl))) (de_var 1 rfl rfl (by first | exact Or.inl rfl | exact Or.inr (Or.inl rfl) | exact Or.inr (Or.inr rfl)))) (de_var 0 rfl rfl (by first | exact Or.inl rfl | exact Or.inr (Or.inl rfl) | exact Or.inr (Or.inr rfl)))) sc_number_raised.nd rfl (by first | exact Or.inl rfl | exact Or.inr rfl) (by first | exact Or.inl rfl | exact Or.inr rfl) (fun _ _ => rfl)) (fun product_49 => (ds_end (s := product_49) (.same (.same (.same (.same (.any .nil))))))))) (fun s_52 => (ds_ret (m := (some s_52)) (de_var 3 rfl rfl (by first | exact Or.inl rfl | exact Or.inr (Or.inl rfl) | exact Or.inr (Or.inr rfl))))))))
theorem g_number_raised (T : Tx K mg C fI fdI G fG fdG) : Gd P w K mg base 1 "number_raised" (fun p : Int × Int × Int × Unit => m_number_raised p.1 p.2.1 p.2.2.1) := T.number_raised.gd sc_number_raised (by decide) (fun _ => rfl) (fun _ h => nomatch h) (b_number_raised T)

theorem sc_weighted_sum : FnScope ["prime", "weights", "parts", "total", "weight", "part", "number", "other"] ["prime", "weights", "parts"] (defScope s_weighted_sum) := ⟨rfl, rfl, rfl, by decide +kernel, rfl, by decide +kernel, by decide +kernel⟩
def fl_weighted_sum (p_prime : Int) (p_weights : (List Int)) (p_parts : (List (List Int))) : Fl Unit Unit (List Int) := (Fl.bindO (((some ([(0 : Int)] : List Int))).bind fun v_57 => ((((atI p_parts (0 : Int))).bind fun v_56 => some (v_56.length : Int))).bind fun v_58 => (repI v_57 v_58)) fun total_55 => (Fl.bindO (some (p_weights.zip p_parts)) fun xs_72 => Fl.bind (Fl.loop (fun (i_60 : (Int × (List Int))) (s_59 : ((List Int))) => ((Fl.bindO (some (!decide (i_60.1 = (0 : Int)))) fun v_66 => Fl.bind (if v_66 = true then ((Fl.bindO (((some (s_59.zip i_60.2))).bind fun xs_65 => (capI xs_65).bind fun xs_65 => mapO (fun (i_62 : (Int × Int)) => (((some i_62.1)).bind fun v_63 => ((mulI i_60.1 i_62.2)).bind fun v_64 => some (v_63 + v_64))) xs_65) fun total_61 => (.nx total_61)) : Fl ((List Int)) ((List Int)) (List Int)) else (.nx s_59)) fun s_67 => (.nx s_67)) : Fl ((List Int)) ((List Int)) (List Int))) xs_72 total_55 : Fl ((List Int)) Unit (List Int)) fun s_68 => (Fl.bindO (((some s_68)).bind fun xs_70 => (capI xs_70).bind fun xs_70 => mapO (fun (i_69 : Int) => (modI i_69 p_prime)) xs_70) fun r_71 => .rt r_71)))
def m_weighted_sum (p_prime : Int) (p_weights : (List Int)) (p_parts : (List (List Int))) : Option (List Int) := (fl_weighted_sum p_prime p_weights p_parts).fin none
theorem b_weighted_sum (T : Tx K mg C fI fdI G fG fdG) (p : Int × (List Int) × (List (List Int)) × Unit) : DeSN (ctOf P w K mg base 0 ["prime", "weights", "parts", "total", "weight", "part", "number", "other"] (defScope s_weighted_sum)) (Pk.sl p ++ List.replicate (8 - (Pk.sl p).length) .any) (defBody s_weighted_sum) (fun _ : Unit => List.replicate 8 .any) (fun _ : Unit => []) (fl_weighted_sum p.1 p.2.1 p.2.2.1) := by
  obtain ⟨p_prime, p_weights, p_parts, _⟩ := p
  unfold fl_weighted_sum
  exact (dsn_set (i := 3) (as_e (m := (((some ([(0 : Int)] : List Int))).bind fun v_57 => ((((atI p_parts (0 : Int))).bind fun v_56 => some (v_56.length : Int))).bind fun v_58 => (repI v_57 v_58))) 3 (DeN.de (dn_rep (m := (some ([(0 : Int)] : List Int))) (n := (((atI p_parts (0 : Int))).bind fun v_56 => some (v_56.length : Int))) (dn_lstP (di_consP de_int di_nil)) (de_lenL (m := (atI p_parts (0 : Int))) T.len (De.l (de_ixLP (De.l (de_var 2 rfl rfl (by first | exact Or.inl rfl | exact Or.inr (Or.inl rfl) | exact Or.inr (Or.inr rfl)))) de_int))))) sc_weighted_sum.nd rfl (by first | exact Or.inl rfl | exact Or.inr rfl) (by first | exact Or.inl rfl | exact Or.inr rfl) (fun _ _ => rfl)) (fun total_55 => (dsn_forT (sk := (fun (s : ((List Int))) => ([.val (p_prime : Int), .val (p_weights : (List Int)), .val (p_parts : (List (List Int))), .val (s : (List Int)), .any, .any, .any, .any] : List Slot))) (s0 := total_55) (di_zipL T.zip (de_var 1 rfl rfl (by first | exact Or.inl rfl | exact Or.inr (Or.inl rfl) | exact Or.inr (Or.inr rfl))) (de_var 2 rfl rfl (by first | exact Or.inl rfl | exact Or.inr (Or.inl rfl) | exact Or.inr (Or.inr rfl)))) (dg_pair (dg_name 4 sc_weighted_sum.nd rfl (by first | exact Or.inl rfl | exact Or.inr rfl) (by first | exact Or.inl rfl | exact Or.inr rfl)) (dg_name 5 sc_weighted_sum.nd rfl (by first | exact Or.inl rfl | exact Or.inr rfl) (by first | exact Or.inl rfl | exact Or.inr rfl))) (.same (.same (.same (.same (.any (.any (.any (.any .nil)))))))) (fun i_60 s_59 => (dsn_if (jk := (fun (s : ((List Int))) => ([.val (p_prime : Int), .val (p_weights : (List Int)), .val (p_parts : (List (List Int))), .val (s : (List Int)), .val (i_60.1 : Int), .val (i_60.2 : (List Int)), .any, .any] : List Slot))) (mt := (some (!decide (i_60.1 = (0 : Int))))) (dt_c1P (f := fun (x : Int) (y : Int) => some (!decide (x = y))) cmp_neI (de_var 4 rfl rfl (by first | exact Or.inl rfl | exact Or.inr (Or.inl rfl) | exact Or.inr (Or.inr rfl))) de_int) (dsn_set (i := 3) (AsN.toE (by first | exact (as_compT (own := [("number", 6), ("other", 7)]) 3 sc_weighted_sum.nd rfl rfl rfl (by decide +kernel) (by decide +kernel) (di_zipL T.zip (de_var 3 rfl rfl (by first | exact Or.inl rfl | exact Or.inr (Or.inl rfl) | exact Or.inr (Or.inr rfl))) (de_var 5 rfl rfl (by first | exact Or.inl rfl | exact Or.inr (Or.inl rfl) | exact Or.inr (Or.inr rfl)))) (blkOk_by (by dsimp only [ctOf, Ct.blk]; decide +kernel)) (dg_pair (dg_name 6 sc_weighted_sum.nd rfl (by first | exact Or.inl rfl | exact Or.inr rfl) (by first | exact Or.inl rfl | exact Or.inr rfl)) (dg_name 7 sc_weighted_sum.nd rfl (by first | exact Or.inl rfl | exact Or.inr rfl) (by first | exact Or.inl rfl | exact Or.inr rfl))) (by decide) (fun i_62 => (de_add (ma := (some i_62.1)) (mb := (mulI i_60.1 i_62.2)) (de_var 6 rfl rfl (by first | exact Or.inl rfl | exact Or.inr (Or.inl rfl) | exact Or.inr (Or.inr rfl))) (de_mulP (de_var 4 rfl rfl (by first | exact Or.inl rfl | exact Or.inr (Or.inl rfl) | exact Or.inr (Or.inr rfl))) (de_var 7 rfl rfl (by first | exact Or.inl rfl | exact Or.inr (Or.inl rfl) | exact Or.inr (Or.inr rfl))))))) | exact (as_n 3 (dn_compT (own := [("number", 6), ("other", 7)]) sc_weighted_sum.nd (di_zipL T.zip (de_var 3 rfl rfl (by first | exact Or.inl rfl | exact Or.inr (Or.inl rfl) | exact Or.inr (Or.inr rfl))) (de_var 5 rfl rfl (by first | exact Or.inl rfl | exact Or.inr (Or.inl rfl) | exact Or.inr (Or.inr rfl)))) (blkOk_by (by dsimp only [ctOf, Ct.blk]; decide +kernel)) (dg_pair (dg_name 6 sc_weighted_sum.nd rfl (by first | exact Or.inl rfl | exact Or.inr rfl) (by first | exact Or.inl rfl | exact Or.inr rfl)) (dg_name 7 sc_weighted_sum.nd rfl (by first | exact Or.inl rfl | exact Or.inr rfl) (by first | exact Or.inl rfl | exact Or.inr rfl))) (by decide) (fun i_62 => (de_add (ma := (some i_62.1)) (mb := (mulI i_60.1 i_62.2)) (de_var 6 rfl rfl (by first | exact Or.inl rfl | exact Or.inr (Or.inl rfl) | exact Or.inr (Or.inr rfl))) (de_mulP (de_var 4 rfl rfl (by first | exact Or.inl rfl | exact Or.inr (Or.inl rfl) | exact Or.inr (Or.inr rfl))) (de_var 7 rfl rfl (by first | exact Or.inl rfl | exact Or.inr (Or.inl rfl) | exact Or.inr (Or.inr rfl))))))) sc_weighted_sum.nd rfl (by first | exact Or.inl rfl | exact Or.inr rfl) (by first | exact Or.inl rfl | exact Or.inr rfl) (sw_cell rfl)))) (fun total_61 => (dsn_end (s := total_61) (.same (.same (.same (.same (.same (.same (.any (.any .nil))))))))))) (dsn_end (s := s_59) (.same (.same (.same (.same (.same (.same (.any (.any .nil))))))))) (fun s_67 => (dsn_end (s := s_67) (.same (.same (.same (.same (.any (.any (.any (.any .nil)))))))))))) (fun s_68 => (dsn_ret (m := (((some s_68)).bind fun xs_70 => (capI xs_70).bind fun xs_70 => mapO (fun (i_69 : Int) => (modI i_69 p_prime)) xs_70)) (dn_comp (own := [("number", 6)]) sc_weighted_sum.nd (di_list (m := (some s_68)) (de_var 3 rfl rfl (by first | exact Or.inl rfl | exact Or.inr (Or.inl rfl) | exact Or.inr (Or.inr rfl)))) (blkOk_by (by dsimp only [ctOf, Ct.blk]; decide +kernel)) (dg_name 6 sc_weighted_sum.nd rfl (by first | exact Or.inl rfl | exact Or.inr rfl) (by first | exact Or.inl rfl | exact Or.inr rfl)) (by decide) (fun i_69 => (de_modP (de_var 6 rfl rfl (by first | exact Or.inl rfl | exact Or.inr (Or.inl rfl) | exact Or.inr (Or.inr rfl))) (de_var 0 rfl rfl (by first | exact Or.inl rfl | exact Or.inr (Or.inl rfl) | exact Or.inr (Or.inr rfl)))))))))))
theorem g_weighted_sum (T : Tx K mg C fI fdI G fG fdG) : GdN P w K mg base 1 "weighted_sum" (fun p : Int × (List Int) × (List (List Int)) × Unit => m_weighted_sum p.1 p.2.1 p.2.2.1) := T.weighted_sum.gdN sc_weighted_sum (by decide) (fun _ => rfl) (b_weighted_sum T)

theorem sc_turned_once : FnScope ["prime", "rows", "numbers", "parts", "combined", "row", "start"] ["prime", "rows", "numbers"] (defScope s_turned_once) := ⟨rfl, rfl, rfl, by decide +kernel, rfl, by decide +kernel, by decide +kernel⟩
def fl_turned_once (p_prime : Int) (p_rows : (List (List Int))) (p_numbers : (List Int)) : Fl Unit Unit (List Int) := (Fl.bindO (((rangeI p_prime)).bind fun xs_75 => (capI xs_75).bind fun xs_75 => mapO (fun (i_74 : Int) => (if 0 < p_prime ∧ (pickG p_numbers (some i_74) none (some p_prime)).length ≤ 100000 then some (pickG p_numbers (some i_74) none (some p_prime)) else none)) xs_75) fun parts_73 => (Fl.bindO (some ([] : List Int)) fun combined_76 => (Fl.bindO (some p_rows) fun xs_83 => Fl.bind (Fl.loop (fun (i_78 : (List Int)) (s_77 : ((List Int))) => ((Fl.bindO (m_weighted_sum p_prime i_78 parts_73) fun y_79 => if len1 (s_77.length + y_79.length) = true then (.nx (s_77 ++ y_79)) else .err) : Fl ((List Int)) ((List Int)) (List Int))) xs_83 combined_76 : Fl ((List Int)) Unit (List Int)) fun s_81 => (Fl.bindO (some s_81) fun r_82 => .rt r_82))))
def m_turned_once (p_prime : Int) (p_rows : (List (List Int))) (p_numbers : (List Int)) : Option (List Int) := (fl_turned_once p_prime p_rows p_numbers).fin none
theorem b_turned_once (T : Tx K mg C fI fdI G fG fdG) (p : Int × (List (List Int)) × (List Int) × Unit) : DeS (ctOf P w K mg base 1 ["prime", "rows", "numbers", "parts", "combined", "row", "start"] (defScope s_turned_once)) (Pk.sl p ++ List.replicate (7 - (Pk.sl p).length) .any) (defBody s_turned_once) (fun _ : Unit => List.replicate 7 .any) (fun _ : Unit => []) (fl_turned_once p.1 p.2.1 p.2.2.1) := by
  obtain ⟨p_prime, p_rows, p_numbers, _⟩ := p
  unfold fl_turned_once
  exact (ds_set (i := 3) (AsN.toE (by first | exact (as_comp (own := [("start", 6)]) 3 sc_turned_once.nd rfl rfl rfl (by decide +kernel) (by decide +kernel) (di_rangeP  T.range (de_var 0 rfl rfl (by first | exact Or.inl rfl | exact Or.inr (Or.inl rfl) | exact Or.inr (Or.inr rfl)))) (blkOk_by (by dsimp only [ctOf, Ct.blk]; decide +kernel)) (dg_name 6 sc_turned_once.nd rfl (by first | exact Or.inl rfl | exact Or.inr rfl) (by first | exact Or.inl rfl | exact Or.inr rfl)) (by decide) (fun i_74 => (DeN.de (dn_stepL (m := (some p_numbers)) (ml := (some i_74)) (ms := (some p_prime)) (de_var 2 rfl rfl (by first | exact Or.inl rfl | exact Or.inr (Or.inl rfl) | exact Or.inr (Or.inr rfl))) (de_var 6 rfl rfl (by first | exact Or.inl rfl | exact Or.inr (Or.inl rfl) | exact Or.inr (Or.inr rfl))) (de_var 0 rfl rfl (by first | exact Or.inl rfl | exact Or.inr (Or.inl rfl) | exact Or.inr (Or.inr rfl))))))) | exact (as_n 3 (dn_comp (own := [("start", 6)]) sc_turned_once.nd (di_rangeP  T.range (de_var 0 rfl rfl (by first | exact Or.inl rfl | exact Or.inr (Or.inl rfl) | exact Or.inr (Or.inr rfl)))) (blkOk_by (by dsimp only [ctOf, Ct.blk]; decide +kernel)) (dg_name 6 sc_turned_once.nd rfl (by first | exact Or.inl rfl | exact Or.inr rfl) (by first | exact Or.inl rfl | exact Or.inr rfl)) (by decide) (fun i_74 => (DeN.de (dn_stepL (m := (some p_numbers)) (ml := (some i_74)) (ms := (some p_prime)) (de_var 2 rfl rfl (by first | exact Or.inl rfl | exact Or.inr (Or.inl rfl) | exact Or.inr (Or.inr rfl))) (de_var 6 rfl rfl (by first | exact Or.inl rfl | exact Or.inr (Or.inl rfl) | exact Or.inr (Or.inr rfl))) (de_var 0 rfl rfl (by first | exact Or.inl rfl | exact Or.inr (Or.inl rfl) | exact Or.inr (Or.inr rfl))))))) sc_turned_once.nd rfl (by first | exact Or.inl rfl | exact Or.inr rfl) (by first | exact Or.inl rfl | exact Or.inr rfl) (sw_cell rfl)))) (fun parts_73 => (ds_own (i := 4) (as_n 4 (dn_lstP di_nil) sc_turned_once.nd rfl (by first | exact Or.inl rfl | exact Or.inr rfl) (by first | exact Or.inl rfl | exact Or.inr rfl) (fun _ _ => rfl)) (fun combined_76 => (ds_for (sk := (fun (s : ((List Int))) => ([.val (p_prime : Int), .val (p_rows : (List (List Int))), .val (p_numbers : (List Int)), .val (parts_73 : (List (List Int))), .own (s : (List Int)), .any, .any] : List Slot))) (s0 := combined_76) (di_list (m := (some p_rows)) (de_var 1 rfl rfl (by first | exact Or.inl rfl | exact Or.inr (Or.inl rfl) | exact Or.inr (Or.inr rfl)))) (dg_name 5 sc_turned_once.nd rfl (by first | exact Or.inl rfl | exact Or.inr rfl) (by first | exact Or.inl rfl | exact Or.inr rfl)) (.same (.same (.same (.same (.same (.any (.any .nil))))))) (fun i_78 s_77 => (ds_extend 4 rfl rfl (by first | exact Or.inl rfl | exact Or.inr (Or.inl rfl) | exact Or.inr (Or.inr rfl)) (dn_call3 (m1 := (some p_prime)) (m2 := (some i_78)) (m3 := (some parts_73)) (f := fun p : Int × (List Int) × (List (List Int)) × Unit => m_weighted_sum p.1 p.2.1 p.2.2.1) ((g_weighted_sum T).df) (de_var 0 rfl rfl (by first | exact Or.inl rfl | exact Or.inr (Or.inl rfl) | exact Or.inr (Or.inr rfl))) (de_var 5 rfl rfl (by first | exact Or.inl rfl | exact Or.inr (Or.inl rfl) | exact Or.inr (Or.inr rfl))) (de_var 3 rfl rfl (by first | exact Or.inl rfl | exact Or.inr (Or.inl rfl) | exact Or.inr (Or.inr rfl)))) (fun y_79 => (ds_end (s := (s_77 ++ y_79)) (.same (.same (.same (.same (.same (.any (.any .nil))))))))) (k := fun combined_80 => (.nx combined_80)))) (fun s_81 => (ds_freeze 4 rfl (ds_ret (m := (some s_81)) (de_var 4 rfl rfl (by first | exact Or.inl rfl | exact Or.inr (Or.inl rfl) | exact Or.inr (Or.inr rfl)))))))))))
theorem g_turned_once (T : Tx K mg C fI fdI G fG fdG) : Gd P w K mg base 2 "turned_once" (fun p : Int × (List (List Int)) × (List Int) × Unit => m_turned_once p.1 p.2.1 p.2.2.1) := T.turned_once.gd sc_turned_once (by decide) (fun _ => rfl) (fun _ h => nomatch h) (b_turned_once T)

theorem sc_turned : FnScope ["space", "rows", "numbers", "_"] ["space", "rows", "numbers"] (defScope s_turned) := ⟨rfl, rfl, rfl, by decide +kernel, rfl, by decide +kernel, by decide +kernel⟩
def fl_turned (p_space : (SpaceD C)) (p_rows : (List (List Int))) (p_numbers : (List Int)) : Fl Unit Unit (List Int) := (Fl.bindO (rangeI p_space.count) fun xs_89 => Fl.bind (Fl.loop (fun (i_85 : Int) (s_84 : ((List Int))) => ((Fl.bindO (m_turned_once p_space.prime p_rows s_84) fun numbers_86 => (.nx numbers_86)) : Fl ((List Int)) ((List Int)) (List Int))) xs_89 p_numbers : Fl ((List Int)) Unit (List Int)) fun s_87 => (Fl.bindO (some s_87) fun r_88 => .rt r_88))
def m_turned (p_space : (SpaceD C)) (p_rows : (List (List Int))) (p_numbers : (List Int)) : Option (List Int) := (fl_turned p_space p_rows p_numbers).fin none
theorem b_turned (T : Tx K mg C fI fdI G fG fdG) (p : (SpaceD C) × (List (List Int)) × (List Int) × Unit) : DeS (ctOf P w K mg base 2 ["space", "rows", "numbers", "_"] (defScope s_turned)) (Pk.sl p ++ List.replicate (4 - (Pk.sl p).length) .any) (defBody s_turned) (fun _ : Unit => List.replicate 4 .any) (fun _ : Unit => []) (fl_turned p.1 p.2.1 p.2.2.1) := by
  obtain ⟨p_space, p_rows, p_numbers, _⟩ := p
  unfold fl_turned
  exact (ds_for (sk := (fun (s : ((List Int))) => ([.val (p_space : (SpaceD C)), .val (p_rows : (List (List Int))), .val (s : (List Int)), .any] : List Slot))) (s0 := p_numbers) (di_rangeP  T.range (de_fldP (T.sp_count) (de_var 0 rfl rfl (by first | exact Or.inl rfl | exact Or.inr (Or.inl rfl) | exact Or.inr (Or.inr rfl))))) (dg_name 3 sc_turned.nd rfl (by first | exact Or.inl rfl | exact Or.inr rfl) (by first | exact Or.inl rfl | exact Or.inr rfl)) (.same (.same (.same (.any .nil)))) (fun i_85 s_84 => (ds_set (i := 2) (as_e (m := (m_turned_once p_space.prime p_rows s_84)) 2 (de_call3P (a1 := p_space.prime) (a2 := p_rows) (a3 := s_84) (f := fun p : Int × (List (List Int)) × (List Int) × Unit => m_turned_once p.1 p.2.1 p.2.2.1) ((g_turned_once T).df) (de_fldP (T.sp_prime) (de_var 0 rfl rfl (by first | exact Or.inl rfl | exact Or.inr (Or.inl rfl) | exact Or.inr (Or.inr rfl)))) (de_var 1 rfl rfl (by first | exact Or.inl rfl | exact Or.inr (Or.inl rfl) | exact Or.inr (Or.inr rfl))) (de_var 2 rfl rfl (by first | exact Or.inl rfl | exact Or.inr (Or.inl rfl) | exact Or.inr (Or.inr rfl)))) sc_turned.nd rfl (by first | exact Or.inl rfl | exact Or.inr rfl) (by first | exact Or.inl rfl | exact Or.inr rfl) (fun _ _ => rfl)) (fun numbers_86 => (ds_end (s := numbers_86) (.same (.same (.same (.any .nil)))))))) (fun s_87 => (ds_ret (m := (some s_87)) (de_var 2 rfl rfl (by first | exact Or.inl rfl | exact Or.inr (Or.inl rfl) | exact Or.inr (Or.inr rfl))))))
theorem g_turned (T : Tx K mg C fI fdI G fG fdG) : Gd P w K mg base 3 "turned" (fun p : (SpaceD C) × (List (List Int)) × (List Int) × Unit => m_turned p.1 p.2.1 p.2.2.1) := T.turned.gd sc_turned (by decide) (fun _ => rfl) (fun _ h => nomatch h) (b_turned T)

theorem sc_number_rows : FnScope ["prime", "rows", "exponent", "number"] ["prime"] (defScope s_number_rows) := ⟨rfl, rfl, rfl, by decide +kernel, rfl, by decide +kernel, by decide +kernel⟩
def fl_number_rows (p_prime : Int) : Fl Unit Unit (List (List Int)) := (Fl.bindO (((((((some ([(1 : Int)] : List Int))).bind fun v_91 => ((repI ([(0 : Int)] : List Int) (p_prime - (1 : Int)))).bind fun v_92 => (if len1 (v_91.length + v_92.length) = true then some (v_91 ++ v_92) else none))).bind fun v_93 => ((some ([] : List (List Int)))).bind fun vs_94 => some (v_93 :: vs_94))).bind capL) fun rows_90 => (Fl.bindO (range2I (1 : Int) p_prime) fun xs_106 => Fl.bind (Fl.loop (fun (i_96 : Int) (s_95 : ((List (List Int)))) => ((Fl.bindO (((rangeI p_prime)).bind fun xs_101 => (capI xs_101).bind fun xs_101 => mapO (fun (i_97 : Int) => (((((m_number_raised p_prime i_97 ((p_prime - (1 : Int)) - i_96))).bind fun v_98 => some (-v_98))).bind fun v_99 => ((some p_prime)).bind fun v_100 => (modI v_99 v_100))) xs_101) fun y_102 => if len1 s_95.length = true then (.nx (s_95 ++ [y_102])) else .err) : Fl ((List (List Int))) ((List (List Int))) (List (List Int)))) xs_106 rows_90 : Fl ((List (List Int))) Unit (List (List Int))) fun s_104 => (Fl.bindO (some s_104) fun r_105 => .rt r_105)))
def m_number_rows (p_prime : Int) : Option (List (List Int)) := (fl_number_rows p_prime).fin none
theorem b_number_rows (T : Tx K mg C fI fdI G fG fdG) (p : Int × Unit) : DeS (ctOf P w K mg base 1 ["prime", "rows", "exponent", "number"] (defScope s_number_rows)) (Pk.sl p ++ List.replicate (4 - (Pk.sl p).length) .any) (defBody s_number_rows) (fun _ : Unit => List.replicate 4 .any) (fun _ : Unit => []) (fl_number_rows p.1) := by
  obtain ⟨p_prime, _⟩ := p
  unfold fl_number_rows
  exact (ds_own (i := 1) (as_n 1 (dn_lst (di_cons (m := (((some ([(1 : Int)] : List Int))).bind fun v_91 => ((repI ([(0 : Int)] : List Int) (p_prime - (1 : Int)))).bind fun v_92 => (if len1 (v_91.length + v_92.length) = true then some (v_91 ++ v_92) else none))) (n := (some ([] : List (List Int)))) (DeN.de (dn_cat (m := (some ([(1 : Int)] : List Int))) (n := (repI ([(0 : Int)] : List Int) (p_prime - (1 : Int)))) (dn_lstP (di_consP de_int di_nil)) (dn_repP (dn_lstP (di_consP de_int di_nil)) (de_subP (de_var 0 rfl rfl (by first | exact Or.inl rfl | exact Or.inr (Or.inl rfl) | exact Or.inr (Or.inr rfl))) de_int)))) di_nil)) sc_number_rows.nd rfl (by first | exact Or.inl rfl | exact Or.inr rfl) (by first | exact Or.inl rfl | exact Or.inr rfl) (fun _ _ => rfl)) (fun rows_90 => (ds_for (sk := (fun (s : ((List (List Int)))) => ([.val (p_prime : Int), .own (s : (List (List Int))), .any, .any] : List Slot))) (s0 := rows_90) (di_range2P T.range de_int (de_var 0 rfl rfl (by first | exact Or.inl rfl | exact Or.inr (Or.inl rfl) | exact Or.inr (Or.inr rfl)))) (dg_name 2 sc_number_rows.nd rfl (by first | exact Or.inl rfl | exact Or.inr rfl) (by first | exact Or.inl rfl | exact Or.inr rfl)) (.same (.same (.any (.any .nil)))) (fun i_96 s_95 => (ds_append 1 rfl rfl (by first | exact Or.inl rfl | exact Or.inr (Or.inl rfl) | exact Or.inr (Or.inr rfl)) (DeN.de (dn_comp (own := [("number", 3)]) sc_number_rows.nd (di_rangeP  T.range (de_var 0 rfl rfl (by first | exact Or.inl rfl | exact Or.inr (Or.inl rfl) | exact Or.inr (Or.inr rfl)))) (blkOk_by (by dsimp only [ctOf, Ct.blk]; decide +kernel)) (dg_name 3 sc_number_rows.nd rfl (by first | exact Or.inl rfl | exact Or.inr rfl) (by first | exact Or.inl rfl | exact Or.inr rfl)) (by decide) (fun i_97 => (de_mod (ma := (((m_number_raised p_prime i_97 ((p_prime - (1 : Int)) - i_96))).bind fun v_98 => some (-v_98))) (mb := (some p_prime)) (de_neg (ma := (m_number_raised p_prime i_97 ((p_prime - (1 : Int)) - i_96))) (de_call3P (a1 := p_prime) (a2 := i_97) (a3 := ((p_prime - (1 : Int)) - i_96)) (f := fun p : Int × Int × Int × Unit => m_number_raised p.1 p.2.1 p.2.2.1) ((g_number_raised T).df) (de_var 0 rfl rfl (by first | exact Or.inl rfl | exact Or.inr (Or.inl rfl) | exact Or.inr (Or.inr rfl))) (de_var 3 rfl rfl (by first | exact Or.inl rfl | exact Or.inr (Or.inl rfl) | exact Or.inr (Or.inr rfl))) (de_subP (de_subP (de_var 0 rfl rfl (by first | exact Or.inl rfl | exact Or.inr (Or.inl rfl) | exact Or.inr (Or.inr rfl))) de_int) (de_var 2 rfl rfl (by first | exact Or.inl rfl | exact Or.inr (Or.inl rfl) | exact Or.inr (Or.inr rfl)))))) (de_var 0 rfl rfl (by first | exact Or.inl rfl | exact Or.inr (Or.inl rfl) | exact Or.inr (Or.inr rfl))))))) (fun y_102 => (ds_end (s := (s_95 ++ [y_102])) (.same (.same (.any (.any .nil)))))) (k := fun rows_103 => (.nx rows_103)))) (fun s_104 => (ds_freeze 1 rfl (ds_ret (m := (some s_104)) (de_var 1 rfl rfl (by first | exact Or.inl rfl | exact Or.inr (Or.inl rfl) | exact Or.inr (Or.inr rfl)))))))))
theorem g_number_rows (T : Tx K mg C fI fdI G fG fdG) : Gd P w K mg base 2 "number_rows" (fun p : Int × Unit => m_number_rows p.1) := T.number_rows.gd sc_number_rows (by decide) (fun _ => rfl) (fun _ h => nomatch h) (b_number_rows T)

theorem sc_polynomial_of : FnScope ["space", "table", "numbers", "pairs", "power", "number"] ["space", "table"] (defScope s_polynomial_of) := ⟨rfl, rfl, rfl, by decide +kernel, rfl, by decide +kernel, by decide +kernel⟩
def fl_polynomial_of (p_space : (SpaceD C)) (p_table : (List Int)) : Fl Unit Unit (Tup ((Tup Int) × Int)) := (Fl.bindO (((some p_space)).bind fun v_108 => ((m_number_rows p_space.prime)).bind fun v_109 => ((some p_table)).bind fun v_110 => (m_turned v_108 v_109 v_110)) fun numbers_107 => (Fl.bindO (((((m_powers p_space ("lex" : Str))).bind fun v_112 => ((some numbers_107)).bind fun v_113 => some (v_112.zip v_113))).bind fun xs_115 => (capI xs_115).bind fun xs_115 => compO (fun (i_114 : ((Tup Int) × Int)) => ((some (!decide (i_114.2 = (0 : Int))))).bind fun k_116 => if k_116 = true then ((some (i_114.1, i_114.2))).map some else some none) xs_115) fun pairs_111 => (Fl.bindO (some (⟨pairs_111.reverse⟩ : (Tup ((Tup Int) × Int)))) fun r_117 => .rt r_117)))
def m_polynomial_of (p_space : (SpaceD C)) (p_table : (List Int)) : Option (Tup ((Tup Int) × Int)) := (fl_polynomial_of p_space p_table).fin none
theorem b_polynomial_of (T : Tx K mg C fI fdI G fG fdG) (p : (SpaceD C) × (List Int) × Unit) : DeS (ctOf P w K mg base 3 ["space", "table", "numbers", "pairs", "power", "number"] (defScope s_polynomial_of)) (Pk.sl p ++ List.replicate (6 - (Pk.sl p).length) .any) (defBody s_polynomial_of) (fun _ : Unit => List.replicate 6 .any) (fun _ : Unit => []) (fl_polynomial_of p.1 p.2.1) := by
  obtain ⟨p_space, p_table, _⟩ := p
  unfold fl_polynomial_of
  exact (ds_set (i := 2) (as_e (m := (((some p_space)).bind fun v_108 => ((m_number_rows p_space.prime)).bind fun v_109 => ((some p_table)).bind fun v_110 => (m_turned v_108 v_109 v_110))) 2 (de_call3 (m1 := (some p_space)) (m2 := (m_number_rows p_space.prime)) (m3 := (some p_table)) (f := fun p : (SpaceD C) × (List (List Int)) × (List Int) × Unit => m_turned p.1 p.2.1 p.2.2.1) ((g_turned T).df) (de_var 0 rfl rfl (by first | exact Or.inl rfl | exact Or.inr (Or.inl rfl) | exact Or.inr (Or.inr rfl))) (de_call1P (a1 := p_space.prime) (f := fun p : Int × Unit => m_number_rows p.1) ((g_number_rows T).df) (de_fldP (T.sp_prime) (de_var 0 rfl rfl (by first | exact Or.inl rfl | exact Or.inr (Or.inl rfl) | exact Or.inr (Or.inr rfl))))) (de_var 1 rfl rfl (by first | exact Or.inl rfl | exact Or.inr (Or.inl rfl) | exact Or.inr (Or.inr rfl)))) sc_polynomial_of.nd rfl (by first | exact Or.inl rfl | exact Or.inr rfl) (by first | exact Or.inl rfl | exact Or.inr rfl) (fun _ _ => rfl)) (fun numbers_107 => (ds_set (i := 3) (AsN.toE (by first | exact (as_compIfT (own := [("power", 4), ("number", 5)]) 3 sc_polynomial_of.nd rfl rfl rfl (by decide +kernel) (by decide +kernel) (di_zipL T.zip (DeN.de (dn_meth1 (y := p_space) (y2 := ("lex" : Str)) (f := fun p : SpaceD C × Str × Unit => m_powers p.1 p.2.1) ((g_powers T).mt) (de_var 0 rfl rfl (by first | exact Or.inl rfl | exact Or.inr (Or.inl rfl) | exact Or.inr (Or.inr rfl))) de_str)) (de_var 2 rfl rfl (by first | exact Or.inl rfl | exact Or.inr (Or.inl rfl) | exact Or.inr (Or.inr rfl)))) (blkOk_by (by dsimp only [ctOf, Ct.blk]; decide +kernel)) (dg_pair (dg_name 4 sc_polynomial_of.nd rfl (by first | exact Or.inl rfl | exact Or.inr rfl) (by first | exact Or.inl rfl | exact Or.inr rfl)) (dg_name 5 sc_polynomial_of.nd rfl (by first | exact Or.inl rfl | exact Or.inr rfl) (by first | exact Or.inl rfl | exact Or.inr rfl))) (by decide) (fun i_114 => (dt_c1P (f := fun (x : Int) (y : Int) => some (!decide (x = y))) cmp_neI (de_var 5 rfl rfl (by first | exact Or.inl rfl | exact Or.inr (Or.inl rfl) | exact Or.inr (Or.inr rfl))) de_int)) (fun i_114 => (de_pairP  (de_var 4 rfl rfl (by first | exact Or.inl rfl | exact Or.inr (Or.inl rfl) | exact Or.inr (Or.inr rfl))) (de_var 5 rfl rfl (by first | exact Or.inl rfl | exact Or.inr (Or.inl rfl) | exact Or.inr (Or.inr rfl)))))) | exact (as_n 3 (dn_compIfT (own := [("power", 4), ("number", 5)]) sc_polynomial_of.nd (di_zipL T.zip (DeN.de (dn_meth1 (y := p_space) (y2 := ("lex" : Str)) (f := fun p : SpaceD C × Str × Unit => m_powers p.1 p.2.1) ((g_powers T).mt) (de_var 0 rfl rfl (by first | exact Or.inl rfl | exact Or.inr (Or.inl rfl) | exact Or.inr (Or.inr rfl))) de_str)) (de_var 2 rfl rfl (by first | exact Or.inl rfl | exact Or.inr (Or.inl rfl) | exact Or.inr (Or.inr rfl)))) (blkOk_by (by dsimp only [ctOf, Ct.blk]; decide +kernel)) (dg_pair (dg_name 4 sc_polynomial_of.nd rfl (by first | exact Or.inl rfl | exact Or.inr rfl) (by first | exact Or.inl rfl | exact Or.inr rfl)) (dg_name 5 sc_polynomial_of.nd rfl (by first | exact Or.inl rfl | exact Or.inr rfl) (by first | exact Or.inl rfl | exact Or.inr rfl))) (by decide) (fun i_114 => (dt_c1P (f := fun (x : Int) (y : Int) => some (!decide (x = y))) cmp_neI (de_var 5 rfl rfl (by first | exact Or.inl rfl | exact Or.inr (Or.inl rfl) | exact Or.inr (Or.inr rfl))) de_int)) (fun i_114 => (de_pairP  (de_var 4 rfl rfl (by first | exact Or.inl rfl | exact Or.inr (Or.inl rfl) | exact Or.inr (Or.inr rfl))) (de_var 5 rfl rfl (by first | exact Or.inl rfl | exact Or.inr (Or.inl rfl) | exact Or.inr (Or.inr rfl)))))) sc_polynomial_of.nd rfl (by first | exact Or.inl rfl | exact Or.inr rfl) (by first | exact Or.inl rfl | exact Or.inr rfl) (sw_cell rfl)))) (fun pairs_111 => (ds_ret (m := (some (⟨pairs_111.reverse⟩ : (Tup ((Tup Int) × Int))))) (de_tupOf (m := (some pairs_111.reverse)) T.tuple (DeN.l (dn_revL (m := (some pairs_111)) (De.l (de_var 3 rfl rfl (by first | exact Or.inl rfl | exact Or.inr (Or.inl rfl) | exact Or.inr (Or.inr rfl))))))))))))
theorem g_polynomial_of (T : Tx K mg C fI fdI G fG fdG) : Gd P w K mg base 4 "polynomial_of" (fun p : (SpaceD C) × (List Int) × Unit => m_polynomial_of p.1 p.2.1) := T.polynomial_of.gd sc_polynomial_of (by decide) (fun _ => rfl) (fun _ h => nomatch h) (b_polynomial_of T)

theorem sc_gate_output : FnScope ["kind", "numbers", "first", "second"] ["kind", "numbers"] (defScope s_gate_output) := ⟨rfl, rfl, rfl, by decide +kernel, rfl, by decide +kernel, by decide +kernel⟩
def fl_gate_output (p_kind : Str) (p_numbers : (List Int)) : Fl Unit Unit Int := (Fl.bindO (some (decide (p_kind = ("not" : Str)))) fun v_121 => Fl.bind (if v_121 = true then ((Fl.bindO (((some (1 : Int))).bind fun v_118 => ((atI p_numbers (0 : Int))).bind fun v_119 => some (v_118 - v_119)) fun r_120 => .rt r_120) : Fl Unit Unit Int) else (.nx ())) fun s_122 => (Fl.bindO (toDuo p_numbers) fun t_123 => (Fl.bindO (some (decide (p_kind = ("and" : Str)))) fun v_125 => Fl.bind (if v_125 = true then ((Fl.bindO (some (Builtin.bitAnd t_123.x1 t_123.x2)) fun r_124 => .rt r_124) : Fl Unit Unit Int) else (.nx ())) fun s_126 => (Fl.bindO (some (decide (p_kind = ("or" : Str)))) fun v_128 => Fl.bind (if v_128 = true then ((Fl.bindO (some (Builtin.bitOr t_123.x1 t_123.x2)) fun r_127 => .rt r_127) : Fl Unit Unit Int) else (.nx ())) fun s_129 => (Fl.bindO (some (Builtin.bitXor t_123.x1 t_123.x2)) fun r_130 => .rt r_130)))))
def m_gate_output (p_kind : Str) (p_numbers : (List Int)) : Option Int := (fl_gate_output p_kind p_numbers).fin none
theorem b_gate_output (T : Tx K mg C fI fdI G fG fdG) (p : Str × (List Int) × Unit) : DeS (ctOf P w K mg base 0 ["kind", "numbers", "first", "second"] (defScope s_gate_output)) (Pk.sl p ++ List.replicate (4 - (Pk.sl p).length) .any) (defBody s_gate_output) (fun _ : Unit => List.replicate 4 .any) (fun _ : Unit => []) (fl_gate_output p.1 p.2.1) := by
  obtain ⟨p_kind, p_numbers, _⟩ := p
  unfold fl_gate_output
  exact (ds_if (jk := (fun (s : Unit) => ([.val (p_kind : Str), .val (p_numbers : (List Int)), .any, .any] : List Slot))) (mt := (some (decide (p_kind = ("not" : Str))))) (dt_c1P (f := fun (x : Str) (y : Str) => some (decide (x = y))) cmp_eqS (de_var 0 rfl rfl (by first | exact Or.inl rfl | exact Or.inr (Or.inl rfl) | exact Or.inr (Or.inr rfl))) de_str) (ds_ret (m := (((some (1 : Int))).bind fun v_118 => ((atI p_numbers (0 : Int))).bind fun v_119 => some (v_118 - v_119))) (de_sub (ma := (some (1 : Int))) (mb := (atI p_numbers (0 : Int))) de_int (de_ixLP (De.l (de_var 1 rfl rfl (by first | exact Or.inl rfl | exact Or.inr (Or.inl rfl) | exact Or.inr (Or.inr rfl)))) de_int))) (ds_end (s := ()) (.same (.same (.any (.any .nil))))) (fun s_122 => (ds_unpack (de_toDuo (m := (some p_numbers)) (de_var 1 rfl rfl (by first | exact Or.inl rfl | exact Or.inr (Or.inl rfl) | exact Or.inr (Or.inr rfl)))) (dg_duo (dg_name 2 sc_gate_output.nd rfl (by first | exact Or.inl rfl | exact Or.inr rfl) (by first | exact Or.inl rfl | exact Or.inr rfl)) (dg_name 3 sc_gate_output.nd rfl (by first | exact Or.inl rfl | exact Or.inr rfl) (by first | exact Or.inl rfl | exact Or.inr rfl))) (fun t_123 => (ds_if (jk := (fun (s : Unit) => ([.val (p_kind : Str), .val (p_numbers : (List Int)), .val (t_123.x1 : Int), .val (t_123.x2 : Int)] : List Slot))) (mt := (some (decide (p_kind = ("and" : Str))))) (dt_c1P (f := fun (x : Str) (y : Str) => some (decide (x = y))) cmp_eqS (de_var 0 rfl rfl (by first | exact Or.inl rfl | exact Or.inr (Or.inl rfl) | exact Or.inr (Or.inr rfl))) de_str) (ds_ret (m := (some (Builtin.bitAnd t_123.x1 t_123.x2))) (de_band (ma := (some t_123.x1)) (mb := (some t_123.x2)) (de_var 2 rfl rfl (by first | exact Or.inl rfl | exact Or.inr (Or.inl rfl) | exact Or.inr (Or.inr rfl))) (de_var 3 rfl rfl (by first | exact Or.inl rfl | exact Or.inr (Or.inl rfl) | exact Or.inr (Or.inr rfl))))) (ds_end (s := ()) (.same (.same (.same (.same .nil))))) (fun s_126 => (ds_if (jk := (fun (s : Unit) => ([.val (p_kind : Str), .val (p_numbers : (List Int)), .val (t_123.x1 : Int), .val (t_123.x2 : Int)] : List Slot))) (mt := (some (decide (p_kind = ("or" : Str))))) (dt_c1P (f := fun (x : Str) (y : Str) => some (decide (x = y))) cmp_eqS (de_var 0 rfl rfl (by first | exact Or.inl rfl | exact Or.inr (Or.inl rfl) | exact Or.inr (Or.inr rfl))) de_str) (ds_ret (m := (some (Builtin.bitOr t_123.x1 t_123.x2))) (de_bor (ma := (some t_123.x1)) (mb := (some t_123.x2)) (de_var 2 rfl rfl (by first | exact Or.inl rfl | exact Or.inr (Or.inl rfl) | exact Or.inr (Or.inr rfl))) (de_var 3 rfl rfl (by first | exact Or.inl rfl | exact Or.inr (Or.inl rfl) | exact Or.inr (Or.inr rfl))))) (ds_end (s := ()) (.same (.same (.same (.same .nil))))) (fun s_129 => (ds_ret (m := (some (Builtin.bitXor t_123.x1 t_123.x2))) (de_bxor (ma := (some t_123.x1)) (mb := (some t_123.x2)) (de_var 2 rfl rfl (by first | exact Or.inl rfl | exact Or.inr (Or.inl rfl) | exact Or.inr (Or.inr rfl))) (de_var 3 rfl rfl (by first | exact Or.inl rfl | exact Or.inr (Or.inl rfl) | exact Or.inr (Or.inr rfl)))))))))))))
theorem g_gate_output (T : Tx K mg C fI fdI G fG fdG) : Gd P w K mg base 1 "gate_output" (fun p : Str × (List Int) × Unit => m_gate_output p.1 p.2.1) := T.gate_output.gd sc_gate_output (by decide) (fun _ => rfl) (fun _ h => nomatch h) (b_gate_output T)

theorem sc_outputs_at : FnScope ["circuit", "point", "number_by_name", "name", "kind", "operands", "number", "operand"] ["circuit", "point"] (defScope s_outputs_at) := ⟨rfl, rfl, rfl, by decide +kernel, rfl, by decide +kernel, by decide +kernel⟩
def fl_outputs_at (p_circuit : (CirD G)) (p_point : (Tup Int)) : Fl Unit Unit (List Int) := (Fl.bindO (((some (p_circuit.inputs.zip p_point.l))).bind fun xs_133 => (capI xs_133).bind fun xs_133 => dcsO (fun (i_132 : (Str × Int)) => (some i_132.1)) (fun (i_132 : (Str × Int)) => (some i_132.2)) xs_133 (⟨[]⟩ : (DctS Int))) fun number_by_name_131 => (Fl.bindO (some p_circuit.gates) fun xs_147 => Fl.bind (Fl.loop (fun (i_135 : (Trp Str Str (Tup Str))) (s_134 : ((DctS Int))) => ((Fl.bindO (((some i_135.x2)).bind fun v_138 => ((((some i_135.x3.l)).bind fun xs_137 => (capI xs_137).bind fun xs_137 => mapO (fun (i_136 : Str) => (s_134.get i_136)) xs_137)).bind fun v_139 => (m_gate_output v_138 v_139)) fun y_140 => Fl.bindO (some i_135.x1) fun z_141 => if len1 s_134.l.length = true then (fun number_by_name_142 => (.nx number_by_name_142)) (s_134.put z_141 y_140) else .err) : Fl ((DctS Int)) ((DctS Int)) (List Int))) xs_147 number_by_name_131 : Fl ((DctS Int)) Unit (List Int)) fun s_143 => (Fl.bindO (((some p_circuit.outputs)).bind fun xs_145 => (capI xs_145).bind fun xs_145 => mapO (fun (i_144 : Str) => (s_143.get i_144)) xs_145) fun r_146 => .rt r_146)))
def m_outputs_at (p_circuit : (CirD G)) (p_point : (Tup Int)) : Option (List Int) := (fl_outputs_at p_circuit p_point).fin none
theorem b_outputs_at (T : Tx K mg C fI fdI G fG fdG) (p : (CirD G) × (Tup Int) × Unit) : DeS (ctOf P w K mg base 1 ["circuit", "point", "number_by_name", "name", "kind", "operands", "number", "operand"] (defScope s_outputs_at)) (Pk.sl p ++ List.replicate (8 - (Pk.sl p).length) .any) (defBody s_outputs_at) (fun _ : Unit => List.replicate 8 .any) (fun _ : Unit => []) (fl_outputs_at p.1 p.2.1) := by
  obtain ⟨p_circuit, p_point, _⟩ := p
  unfold fl_outputs_at
  exact (ds_ownMS (i := 2) (by first | exact (as_mcompST (own := [("name", 3), ("number", 6)]) (hk := fun (i_132 : (Str × Int)) => (some i_132.1)) (hv := fun (i_132 : (Str × Int)) => (some i_132.2)) 2 sc_outputs_at.nd rfl rfl rfl (by decide +kernel) (by decide +kernel) (di_zipLT (m := (some p_circuit.inputs)) (n := (some p_point)) T.zip (de_fldP (T.ci_inputs) (de_var 0 rfl rfl (by first | exact Or.inl rfl | exact Or.inr (Or.inl rfl) | exact Or.inr (Or.inr rfl)))) (de_var 1 rfl rfl (by first | exact Or.inl rfl | exact Or.inr (Or.inl rfl) | exact Or.inr (Or.inr rfl)))) (blkOk_by (by dsimp only [ctOf, Ct.blk]; decide +kernel)) (dg_pair (dg_name 3 sc_outputs_at.nd rfl (by first | exact Or.inl rfl | exact Or.inr rfl) (by first | exact Or.inl rfl | exact Or.inr rfl)) (dg_name 6 sc_outputs_at.nd rfl (by first | exact Or.inl rfl | exact Or.inr rfl) (by first | exact Or.inl rfl | exact Or.inr rfl))) (by decide) (fun i_132 => (de_var 3 rfl rfl (by first | exact Or.inl rfl | exact Or.inr (Or.inl rfl) | exact Or.inr (Or.inr rfl)))) (fun i_132 => (de_var 6 rfl rfl (by first | exact Or.inl rfl | exact Or.inr (Or.inl rfl) | exact Or.inr (Or.inr rfl))))) | exact (as_mS 2 (dms_compT (own := [("name", 3), ("number", 6)]) (hk := fun (i_132 : (Str × Int)) => (some i_132.1)) (hv := fun (i_132 : (Str × Int)) => (some i_132.2)) sc_outputs_at.nd (di_zipLT (m := (some p_circuit.inputs)) (n := (some p_point)) T.zip (de_fldP (T.ci_inputs) (de_var 0 rfl rfl (by first | exact Or.inl rfl | exact Or.inr (Or.inl rfl) | exact Or.inr (Or.inr rfl)))) (de_var 1 rfl rfl (by first | exact Or.inl rfl | exact Or.inr (Or.inl rfl) | exact Or.inr (Or.inr rfl)))) (blkOk_by (by dsimp only [ctOf, Ct.blk]; decide +kernel)) (dg_pair (dg_name 3 sc_outputs_at.nd rfl (by first | exact Or.inl rfl | exact Or.inr rfl) (by first | exact Or.inl rfl | exact Or.inr rfl)) (dg_name 6 sc_outputs_at.nd rfl (by first | exact Or.inl rfl | exact Or.inr rfl) (by first | exact Or.inl rfl | exact Or.inr rfl))) (by decide) (fun i_132 => (de_var 3 rfl rfl (by first | exact Or.inl rfl | exact Or.inr (Or.inl rfl) | exact Or.inr (Or.inr rfl)))) (fun i_132 => (de_var 6 rfl rfl (by first | exact Or.inl rfl | exact Or.inr (Or.inl rfl) | exact Or.inr (Or.inr rfl))))) sc_outputs_at.nd rfl (by first | exact Or.inl rfl | exact Or.inr rfl) (by first | exact Or.inl rfl | exact Or.inr rfl) (sw_cellM rfl))) (fun number_by_name_131 => (ds_for (sk := (fun (s : ((DctS Int))) => ([.val (p_circuit : (CirD G)), .val (p_point : (Tup Int)), .dcs (s : (DctS Int)), .any, .any, .any, .any, .any] : List Slot))) (s0 := number_by_name_131) (di_list (m := (some p_circuit.gates)) (de_fldP (T.ci_gates) (de_var 0 rfl rfl (by first | exact Or.inl rfl | exact Or.inr (Or.inl rfl) | exact Or.inr (Or.inr rfl))))) (dg_trp (dg_name 3 sc_outputs_at.nd rfl (by first | exact Or.inl rfl | exact Or.inr rfl) (by first | exact Or.inl rfl | exact Or.inr rfl)) (dg_name 4 sc_outputs_at.nd rfl (by first | exact Or.inl rfl | exact Or.inr rfl) (by first | exact Or.inl rfl | exact Or.inr rfl)) (dg_name 5 sc_outputs_at.nd rfl (by first | exact Or.inl rfl | exact Or.inr rfl) (by first | exact Or.inl rfl | exact Or.inr rfl))) (.same (.same (.same (.any (.any (.any (.any (.any .nil)))))))) (fun i_135 s_134 => (ds_putS 2 (m := (((some i_135.x2)).bind fun v_138 => ((((some i_135.x3.l)).bind fun xs_137 => (capI xs_137).bind fun xs_137 => mapO (fun (i_136 : Str) => (s_134.get i_136)) xs_137)).bind fun v_139 => (m_gate_output v_138 v_139))) (n := (some i_135.x1)) rfl rfl (by first | exact Or.inl rfl | exact Or.inr (Or.inl rfl) | exact Or.inr (Or.inr rfl)) (de_call2 (m1 := (some i_135.x2)) (m2 := (((some i_135.x3.l)).bind fun xs_137 => (capI xs_137).bind fun xs_137 => mapO (fun (i_136 : Str) => (s_134.get i_136)) xs_137)) (f := fun p : Str × (List Int) × Unit => m_gate_output p.1 p.2.1) ((g_gate_output T).df) (de_var 4 rfl rfl (by first | exact Or.inl rfl | exact Or.inr (Or.inl rfl) | exact Or.inr (Or.inr rfl))) (DeN.de (dn_comp (own := [("operand", 7)]) sc_outputs_at.nd (di_tup (m := (some i_135.x3)) (de_var 5 rfl rfl (by first | exact Or.inl rfl | exact Or.inr (Or.inl rfl) | exact Or.inr (Or.inr rfl)))) (blkOk_by (by dsimp only [ctOf, Ct.blk]; decide +kernel)) (dg_name 7 sc_outputs_at.nd rfl (by first | exact Or.inl rfl | exact Or.inr rfl) (by first | exact Or.inl rfl | exact Or.inr rfl)) (by decide) (fun i_136 => (de_getSO 2 (n := (some i_136)) rfl rfl (by first | exact Or.inl rfl | exact Or.inr (Or.inl rfl) | exact Or.inr (Or.inr rfl)) (de_var 7 rfl rfl (by first | exact Or.inl rfl | exact Or.inr (Or.inl rfl) | exact Or.inr (Or.inr rfl)))))))) (de_var 3 rfl rfl (by first | exact Or.inl rfl | exact Or.inr (Or.inl rfl) | exact Or.inr (Or.inr rfl))) (fun number_by_name_142 => (ds_end (s := number_by_name_142) (.same (.same (.same (.any (.any (.any (.any (.any .nil)))))))))) (k := fun number_by_name_142 => (.nx number_by_name_142)))) (fun s_143 => (ds_ret (m := (((some p_circuit.outputs)).bind fun xs_145 => (capI xs_145).bind fun xs_145 => mapO (fun (i_144 : Str) => (s_143.get i_144)) xs_145)) (DeN.de (dn_comp (own := [("name", 3)]) sc_outputs_at.nd (di_list (m := (some p_circuit.outputs)) (de_fldP (T.ci_outputs) (de_var 0 rfl rfl (by first | exact Or.inl rfl | exact Or.inr (Or.inl rfl) | exact Or.inr (Or.inr rfl))))) (blkOk_by (by dsimp only [ctOf, Ct.blk]; decide +kernel)) (dg_name 3 sc_outputs_at.nd rfl (by first | exact Or.inl rfl | exact Or.inr rfl) (by first | exact Or.inl rfl | exact Or.inr rfl)) (by decide) (fun i_144 => (de_getSO 2 (n := (some i_144)) rfl rfl (by first | exact Or.inl rfl | exact Or.inr (Or.inl rfl) | exact Or.inr (Or.inr rfl)) (de_var 3 rfl rfl (by first | exact Or.inl rfl | exact Or.inr (Or.inl rfl) | exact Or.inr (Or.inr rfl))))))))))))
theorem g_outputs_at (T : Tx K mg C fI fdI G fG fdG) : Gd P w K mg base 2 "outputs_at" (fun p : (CirD G) × (Tup Int) × Unit => m_outputs_at p.1 p.2.1) := T.outputs_at.gd sc_outputs_at (by decide) (fun _ => rfl) (fun _ h => nomatch h) (b_outputs_at T)

theorem sc_polynomials_of : FnScope ["circuit", "space", "rows", "point", "index", "row"] ["circuit"] (defScope s_polynomials_of) := ⟨rfl, rfl, rfl, by decide +kernel, rfl, by decide +kernel, by decide +kernel⟩
def fl_polynomials_of {C : Addr} (p_circuit : (CirD G)) : Fl Unit Unit (List (Tup ((Tup Int) × Int))) := (Fl.bindO (m_space C (2 : Int) p_circuit.inputs) fun space_148 => (Fl.bindO (((m_points space_148)).bind fun xs_151 => (capI xs_151).bind fun xs_151 => mapO (fun (i_150 : (Tup Int)) => (m_outputs_at p_circuit i_150)) xs_151) fun rows_149 => (Fl.bindO (((rangeI (p_circuit.outputs.length : Int))).bind fun xs_157 => (capI xs_157).bind fun xs_157 => mapO (fun (i_152 : Int) => (((some space_148)).bind fun v_155 => ((((some rows_149)).bind fun xs_154 => (capI xs_154).bind fun xs_154 => mapO (fun (i_153 : (List Int)) => (atI i_153 i_152)) xs_154)).bind fun v_156 => (m_polynomial_of v_155 v_156))) xs_157) fun r_158 => .rt r_158)))
def m_polynomials_of {C : Addr} (p_circuit : (CirD G)) : Option (List (Tup ((Tup Int) × Int))) := (fl_polynomials_of (C := C) p_circuit).fin none
theorem b_polynomials_of (T : Tx K mg C fI fdI G fG fdG) (p : (CirD G) × Unit) : DeSN (ctOf P w K mg base 4 ["circuit", "space", "rows", "point", "index", "row"] (defScope s_polynomials_of)) (Pk.sl p ++ List.replicate (6 - (Pk.sl p).length) .any) (defBody s_polynomials_of) (fun _ : Unit => List.replicate 6 .any) (fun _ : Unit => []) (fl_polynomials_of (C := C) p.1) := by
  obtain ⟨p_circuit, _⟩ := p
  unfold fl_polynomials_of
  exact (dsn_set (i := 1) (as_e (m := (m_space C (2 : Int) p_circuit.inputs)) 1 (de_make2 (m1 := (some (2 : Int))) (m2 := (some p_circuit.inputs)) (f := fun q : Int × List Str × Unit => m_space C q.1 q.2.1) ((g_space T).md) space_rep de_int (de_fldP (T.ci_inputs) (de_var 0 rfl rfl (by first | exact Or.inl rfl | exact Or.inr (Or.inl rfl) | exact Or.inr (Or.inr rfl))))) sc_polynomials_of.nd rfl (by first | exact Or.inl rfl | exact Or.inr rfl) (by first | exact Or.inl rfl | exact Or.inr rfl) (fun _ _ => rfl)) (fun space_148 => (dsn_set (i := 2) (AsN.toE (by first | exact (as_comp (own := [("point", 3)]) 2 sc_polynomials_of.nd rfl rfl rfl (by decide +kernel) (by decide +kernel) (di_list (m := (m_points space_148)) (DeN.de (dn_meth0 (y := space_148) (f := fun p : SpaceD C × Unit => m_points p.1) ((g_points T).mt) (de_var 1 rfl rfl (by first | exact Or.inl rfl | exact Or.inr (Or.inl rfl) | exact Or.inr (Or.inr rfl)))))) (blkOk_by (by dsimp only [ctOf, Ct.blk]; decide +kernel)) (dg_name 3 sc_polynomials_of.nd rfl (by first | exact Or.inl rfl | exact Or.inr rfl) (by first | exact Or.inl rfl | exact Or.inr rfl)) (by decide) (fun i_150 => (de_call2P (a1 := p_circuit) (a2 := i_150) (f := fun p : (CirD G) × (Tup Int) × Unit => m_outputs_at p.1 p.2.1) ((g_outputs_at T).df) (de_var 0 rfl rfl (by first | exact Or.inl rfl | exact Or.inr (Or.inl rfl) | exact Or.inr (Or.inr rfl))) (de_var 3 rfl rfl (by first | exact Or.inl rfl | exact Or.inr (Or.inl rfl) | exact Or.inr (Or.inr rfl)))))) | exact (as_n 2 (dn_comp (own := [("point", 3)]) sc_polynomials_of.nd (di_list (m := (m_points space_148)) (DeN.de (dn_meth0 (y := space_148) (f := fun p : SpaceD C × Unit => m_points p.1) ((g_points T).mt) (de_var 1 rfl rfl (by first | exact Or.inl rfl | exact Or.inr (Or.inl rfl) | exact Or.inr (Or.inr rfl)))))) (blkOk_by (by dsimp only [ctOf, Ct.blk]; decide +kernel)) (dg_name 3 sc_polynomials_of.nd rfl (by first | exact Or.inl rfl | exact Or.inr rfl) (by first | exact Or.inl rfl | exact Or.inr rfl)) (by decide) (fun i_150 => (de_call2P (a1 := p_circuit) (a2 := i_150) (f := fun p : (CirD G) × (Tup Int) × Unit => m_outputs_at p.1 p.2.1) ((g_outputs_at T).df) (de_var 0 rfl rfl (by first | exact Or.inl rfl | exact Or.inr (Or.inl rfl) | exact Or.inr (Or.inr rfl))) (de_var 3 rfl rfl (by first | exact Or.inl rfl | exact Or.inr (Or.inl rfl) | exact Or.inr (Or.inr rfl)))))) sc_polynomials_of.nd rfl (by first | exact Or.inl rfl | exact Or.inr rfl) (by first | exact Or.inl rfl | exact Or.inr rfl) (sw_cell rfl)))) (fun rows_149 => (dsn_ret (m := (((rangeI (p_circuit.outputs.length : Int))).bind fun xs_157 => (capI xs_157).bind fun xs_157 => mapO (fun (i_152 : Int) => (((some space_148)).bind fun v_155 => ((((some rows_149)).bind fun xs_154 => (capI xs_154).bind fun xs_154 => mapO (fun (i_153 : (List Int)) => (atI i_153 i_152)) xs_154)).bind fun v_156 => (m_polynomial_of v_155 v_156))) xs_157)) (dn_comp (own := [("index", 4)]) sc_polynomials_of.nd (di_rangeP  T.range (de_lenLP  T.len (De.l (de_fldP (T.ci_outputs) (de_var 0 rfl rfl (by first | exact Or.inl rfl | exact Or.inr (Or.inl rfl) | exact Or.inr (Or.inr rfl))))))) (blkOk_by (by dsimp only [ctOf, Ct.blk]; decide +kernel)) (dg_name 4 sc_polynomials_of.nd rfl (by first | exact Or.inl rfl | exact Or.inr rfl) (by first | exact Or.inl rfl | exact Or.inr rfl)) (by decide) (fun i_152 => (de_call2 (m1 := (some space_148)) (m2 := (((some rows_149)).bind fun xs_154 => (capI xs_154).bind fun xs_154 => mapO (fun (i_153 : (List Int)) => (atI i_153 i_152)) xs_154)) (f := fun p : (SpaceD C) × (List Int) × Unit => m_polynomial_of p.1 p.2.1) ((g_polynomial_of T).df) (de_var 1 rfl rfl (by first | exact Or.inl rfl | exact Or.inr (Or.inl rfl) | exact Or.inr (Or.inr rfl))) (DeN.de (dn_comp (own := [("row", 5)]) sc_polynomials_of.nd (di_list (m := (some rows_149)) (de_var 2 rfl rfl (by first | exact Or.inl rfl | exact Or.inr (Or.inl rfl) | exact Or.inr (Or.inr rfl)))) (blkOk_by (by dsimp only [ctOf, Ct.blk]; decide +kernel)) (dg_name 5 sc_polynomials_of.nd rfl (by first | exact Or.inl rfl | exact Or.inr rfl) (by first | exact Or.inl rfl | exact Or.inr rfl)) (by decide) (fun i_153 => (de_ixLP (De.l (de_var 5 rfl rfl (by first | exact Or.inl rfl | exact Or.inr (Or.inl rfl) | exact Or.inr (Or.inr rfl)))) (de_var 4 rfl rfl (by first | exact Or.inl rfl | exact Or.inr (Or.inl rfl) | exact Or.inr (Or.inr rfl)))))))))))))))
theorem g_polynomials_of (T : Tx K mg C fI fdI G fG fdG) : GdN P w K mg base 5 "polynomials_of" (fun p : (CirD G) × Unit => m_polynomials_of (C := C) p.1) := T.polynomials_of.gdN sc_polynomials_of (by decide) (fun _ => rfl) (b_polynomials_of T)

theorem sc_compare_circuits : FnScope ["one", "other", "point", "firsts", "seconds", "index"] ["one", "other"] (defScope s_compare_circuits) := ⟨rfl, rfl, rfl, by decide +kernel, rfl, by decide +kernel, by decide +kernel⟩
def fl_compare_circuits {C : Addr} (p_one : (CirD G)) (p_other : (CirD G)) : Fl Unit Unit ((Str × (List (Tup ((Tup Int) × Int)))) ⊕ (Trp Str (Tup Int) Int)) := (Fl.bindO (((m_space C (2 : Int) p_one.inputs)).bind fun v_159 => (m_points v_159)) fun xs_177 => Fl.bind (Fl.loop (fun (i_161 : (Tup Int)) (s_160 : Unit) => ((Fl.bindO (m_outputs_at p_one i_161) fun firsts_162 => (Fl.bindO (m_outputs_at p_other i_161) fun seconds_163 => (Fl.bindO (rangeI (firsts_162.length : Int)) fun xs_172 => Fl.bind (Fl.loop (fun (i_165 : Int) (s_164 : Unit) => ((Fl.bindO (((atI firsts_162 i_165)).bind fun v_166 => ((atI seconds_163 i_165)).bind fun v_167 => some (!decide (v_166 = v_167))) fun v_169 => Fl.bind (if v_169 = true then ((Fl.bindO (some (Sum.inr (Trp.mk ("unlike" : Str) i_161 i_165) : ((Str × (List (Tup ((Tup Int) × Int)))) ⊕ (Trp Str (Tup Int) Int)))) fun r_168 => .rt r_168) : Fl Unit Unit ((Str × (List (Tup ((Tup Int) × Int)))) ⊕ (Trp Str (Tup Int) Int))) else (.nx ())) fun s_170 => (.nx ())) : Fl Unit Unit ((Str × (List (Tup ((Tup Int) × Int)))) ⊕ (Trp Str (Tup Int) Int)))) xs_172 () : Fl Unit Unit ((Str × (List (Tup ((Tup Int) × Int)))) ⊕ (Trp Str (Tup Int) Int))) fun s_171 => (.nx ())))) : Fl Unit Unit ((Str × (List (Tup ((Tup Int) × Int)))) ⊕ (Trp Str (Tup Int) Int)))) xs_177 () : Fl Unit Unit ((Str × (List (Tup ((Tup Int) × Int)))) ⊕ (Trp Str (Tup Int) Int))) fun s_173 => (Fl.bindO (((((some ("same" : Str))).bind fun v_174 => ((m_polynomials_of (C := C) p_one)).bind fun v_175 => some (v_174, v_175))).map (Sum.inl : _ → ((Str × (List (Tup ((Tup Int) × Int)))) ⊕ (Trp Str (Tup Int) Int)))) fun r_176 => .rt r_176))
def m_compare_circuits {C : Addr} (p_one : (CirD G)) (p_other : (CirD G)) : Option ((Str × (List (Tup ((Tup Int) × Int)))) ⊕ (Trp Str (Tup Int) Int)) := (fl_compare_circuits (C := C) p_one p_other).fin none
theorem b_compare_circuits (T : Tx K mg C fI fdI G fG fdG) (p : (CirD G) × (CirD G) × Unit) : DeS (ctOf P w K mg base 5 ["one", "other", "point", "firsts", "seconds", "index"] (defScope s_compare_circuits)) (Pk.sl p ++ List.replicate (6 - (Pk.sl p).length) .any) (defBody s_compare_circuits) (fun _ : Unit => List.replicate 6 .any) (fun _ : Unit => []) (fl_compare_circuits (C := C) p.1 p.2.1) := by
  obtain ⟨p_one, p_other, _⟩ := p
  unfold fl_compare_circuits
  exact (ds_for (sk := (fun (s : Unit) => ([.val (p_one : (CirD G)), .val (p_other : (CirD G)), .any, .any, .any, .any] : List Slot))) (s0 := ()) (di_list (m := (((m_space C (2 : Int) p_one.inputs)).bind fun v_159 => (m_points v_159))) (DeN.de (dn_meth0m (m := (m_space C (2 : Int) p_one.inputs)) (f := fun p : SpaceD C × Unit => m_points p.1) ((g_points T).mt) (de_make2 (m1 := (some (2 : Int))) (m2 := (some p_one.inputs)) (f := fun q : Int × List Str × Unit => m_space C q.1 q.2.1) ((g_space T).md) space_rep de_int (de_fldP (T.ci_inputs) (de_var 0 rfl rfl (by first | exact Or.inl rfl | exact Or.inr (Or.inl rfl) | exact Or.inr (Or.inr rfl)))))))) (dg_name 2 sc_compare_circuits.nd rfl (by first | exact Or.inl rfl | exact Or.inr rfl) (by first | exact Or.inl rfl | exact Or.inr rfl)) (.same (.same (.any (.any (.any (.any .nil)))))) (fun i_161 s_160 => (ds_set (i := 3) (as_e (m := (m_outputs_at p_one i_161)) 3 (de_call2P (a1 := p_one) (a2 := i_161) (f := fun p : (CirD G) × (Tup Int) × Unit => m_outputs_at p.1 p.2.1) ((g_outputs_at T).df) (de_var 0 rfl rfl (by first | exact Or.inl rfl | exact Or.inr (Or.inl rfl) | exact Or.inr (Or.inr rfl))) (de_var 2 rfl rfl (by first | exact Or.inl rfl | exact Or.inr (Or.inl rfl) | exact Or.inr (Or.inr rfl)))) sc_compare_circuits.nd rfl (by first | exact Or.inl rfl | exact Or.inr rfl) (by first | exact Or.inl rfl | exact Or.inr rfl) (fun _ _ => rfl)) (fun firsts_162 => (ds_set (i := 4) (as_e (m := (m_outputs_at p_other i_161)) 4 (de_call2P (a1 := p_other) (a2 := i_161) (f := fun p : (CirD G) × (Tup Int) × Unit => m_outputs_at p.1 p.2.1) ((g_outputs_at T).df) (de_var 1 rfl rfl (by first | exact Or.inl rfl | exact Or.inr (Or.inl rfl) | exact Or.inr (Or.inr rfl))) (de_var 2 rfl rfl (by first | exact Or.inl rfl | exact Or.inr (Or.inl rfl) | exact Or.inr (Or.inr rfl)))) sc_compare_circuits.nd rfl (by first | exact Or.inl rfl | exact Or.inr rfl) (by first | exact Or.inl rfl | exact Or.inr rfl) (fun _ _ => rfl)) (fun seconds_163 => (ds_for (sk := (fun (s : Unit) => ([.val (p_one : (CirD G)), .val (p_other : (CirD G)), .val (i_161 : (Tup Int)), .val (firsts_162 : (List Int)), .val (seconds_163 : (List Int)), .any] : List Slot))) (s0 := ()) (di_rangeP  T.range (de_lenLP  T.len (De.l (de_var 3 rfl rfl (by first | exact Or.inl rfl | exact Or.inr (Or.inl rfl) | exact Or.inr (Or.inr rfl)))))) (dg_name 5 sc_compare_circuits.nd rfl (by first | exact Or.inl rfl | exact Or.inr rfl) (by first | exact Or.inl rfl | exact Or.inr rfl)) (.same (.same (.same (.same (.same (.any .nil)))))) (fun i_165 s_164 => (ds_if (jk := (fun (s : Unit) => ([.val (p_one : (CirD G)), .val (p_other : (CirD G)), .val (i_161 : (Tup Int)), .val (firsts_162 : (List Int)), .val (seconds_163 : (List Int)), .val (i_165 : Int)] : List Slot))) (mt := (((atI firsts_162 i_165)).bind fun v_166 => ((atI seconds_163 i_165)).bind fun v_167 => some (!decide (v_166 = v_167)))) (dt_c1 (ma := (atI firsts_162 i_165)) (mb := (atI seconds_163 i_165)) (f := fun (x : Int) (y : Int) => some (!decide (x = y))) cmp_neI (de_ixLP (De.l (de_var 3 rfl rfl (by first | exact Or.inl rfl | exact Or.inr (Or.inl rfl) | exact Or.inr (Or.inr rfl)))) (de_var 5 rfl rfl (by first | exact Or.inl rfl | exact Or.inr (Or.inl rfl) | exact Or.inr (Or.inr rfl)))) (de_ixLP (De.l (de_var 4 rfl rfl (by first | exact Or.inl rfl | exact Or.inr (Or.inl rfl) | exact Or.inr (Or.inr rfl)))) (de_var 5 rfl rfl (by first | exact Or.inl rfl | exact Or.inr (Or.inl rfl) | exact Or.inr (Or.inr rfl))))) (ds_ret (m := (some (Sum.inr (Trp.mk ("unlike" : Str) i_161 i_165) : ((Str × (List (Tup ((Tup Int) × Int)))) ⊕ (Trp Str (Tup Int) Int))))) (de_inr (m := (some (Trp.mk ("unlike" : Str) i_161 i_165))) (de_trp (m1 := (some ("unlike" : Str))) (m2 := (some i_161)) (m3 := (some i_165)) de_str (de_var 2 rfl rfl (by first | exact Or.inl rfl | exact Or.inr (Or.inl rfl) | exact Or.inr (Or.inr rfl))) (de_var 5 rfl rfl (by first | exact Or.inl rfl | exact Or.inr (Or.inl rfl) | exact Or.inr (Or.inr rfl)))))) (ds_end (s := ()) (.same (.same (.same (.same (.same (.same .nil))))))) (fun s_170 => (ds_end (s := ()) (.same (.same (.same (.same (.same (.any .nil)))))))))) (fun s_171 => (ds_end (s := ()) (.same (.same (.any (.any (.any (.any .nil)))))))))))))) (fun s_173 => (ds_ret (m := (((((some ("same" : Str))).bind fun v_174 => ((m_polynomials_of (C := C) p_one)).bind fun v_175 => some (v_174, v_175))).map (Sum.inl : _ → ((Str × (List (Tup ((Tup Int) × Int)))) ⊕ (Trp Str (Tup Int) Int))))) (de_inl (m := (((some ("same" : Str))).bind fun v_174 => ((m_polynomials_of (C := C) p_one)).bind fun v_175 => some (v_174, v_175))) (de_pair (m := (some ("same" : Str))) (n := (m_polynomials_of (C := C) p_one)) de_str (DeN.de (dn_call1 (m1 := (some p_one)) (f := fun p : (CirD G) × Unit => m_polynomials_of (C := C) p.1) ((g_polynomials_of T).df) (de_var 0 rfl rfl (by first | exact Or.inl rfl | exact Or.inr (Or.inl rfl) | exact Or.inr (Or.inr rfl))))))))))
theorem g_compare_circuits (T : Tx K mg C fI fdI G fG fdG) : Gd P w K mg base 6 "compare_circuits" (fun p : (CirD G) × (CirD G) × Unit => m_compare_circuits (C := C) p.1 p.2.1) := T.compare_circuits.gd sc_compare_circuits (by decide) (fun _ => rfl) (fun _ h => nomatch h) (b_compare_circuits T)

theorem sc_law_cell : FnScope ["script", "k"] ["script", "k"] (defScope s_law_cell) := ⟨rfl, rfl, rfl, by decide +kernel, rfl, by decide +kernel, by decide +kernel⟩
def fl_law_cell (p_script : (List Int)) (p_k : Int) : Fl Unit Unit Int := (Fl.bindO (some (decide (p_k < (p_script.length : Int)))) fun v_179 => Fl.bind (if v_179 = true then ((Fl.bindO (atI p_script p_k) fun r_178 => .rt r_178) : Fl Unit Unit Int) else (.nx ())) fun s_180 => (Fl.bindO (some (0 : Int)) fun r_181 => .rt r_181))
def m_law_cell (p_script : (List Int)) (p_k : Int) : Option Int := (fl_law_cell p_script p_k).fin none
theorem b_law_cell (T : Tx K mg C fI fdI G fG fdG) (p : (List Int) × Int × Unit) : DeS (ctOf P w K mg base 0 ["script", "k"] (defScope s_law_cell)) (Pk.sl p ++ List.replicate (2 - (Pk.sl p).length) .any) (defBody s_law_cell) (fun _ : Unit => List.replicate 2 .any) (fun _ : Unit => []) (fl_law_cell p.1 p.2.1) := by
  obtain ⟨p_script, p_k, _⟩ := p
  unfold fl_law_cell
  exact (ds_if (jk := (fun (s : Unit) => ([.val (p_script : (List Int)), .val (p_k : Int)] : List Slot))) (mt := (some (decide (p_k < (p_script.length : Int))))) (dt_c1P (f := fun (x : Int) (y : Int) => some (decide (x < y))) cmp_lt (de_var 1 rfl rfl (by first | exact Or.inl rfl | exact Or.inr (Or.inl rfl) | exact Or.inr (Or.inr rfl))) (de_lenLP  T.len (De.l (de_var 0 rfl rfl (by first | exact Or.inl rfl | exact Or.inr (Or.inl rfl) | exact Or.inr (Or.inr rfl)))))) (ds_ret (m := (atI p_script p_k)) (de_ixLP (De.l (de_var 0 rfl rfl (by first | exact Or.inl rfl | exact Or.inr (Or.inl rfl) | exact Or.inr (Or.inr rfl)))) (de_var 1 rfl rfl (by first | exact Or.inl rfl | exact Or.inr (Or.inl rfl) | exact Or.inr (Or.inr rfl))))) (ds_end (s := ()) (.same (.same .nil))) (fun s_180 => (ds_ret (m := (some (0 : Int))) de_int)))
theorem g_law_cell (T : Tx K mg C fI fdI G fG fdG) : Gd P w K mg base 1 "_law_cell" (fun p : (List Int) × Int × Unit => m_law_cell p.1 p.2.1) := T.law_cell.gd sc_law_cell (by decide) (fun _ => rfl) (fun _ h => nomatch h) (b_law_cell T)

theorem sc_law_digits : FnScope ["cell", "many", "count", "digits", "rest", "k", "mixed"] ["cell", "many", "count"] (defScope s_law_digits) := ⟨rfl, rfl, rfl, by decide +kernel, rfl, by decide +kernel, by decide +kernel⟩
def fl_law_digits (p_cell : Int) (p_many : Int) (p_count : Int) : Fl Unit Unit (List Int) := (Fl.bindO (some ([] : List Int)) fun digits_182 => (Fl.bindO (some p_cell) fun rest_183 => (Fl.bindO (rangeI p_count) fun xs_216 => Fl.bind (Fl.loop (fun (i_185 : Int) (s_184 : ((List Int) × Int)) => ((Fl.bindO (((some p_cell)).bind fun v_186 => ((powI (10 : Int) (18 : Int))).bind fun v_187 => some (decide (v_187 ≤ v_186))) fun v_212 => Fl.bind (if v_212 = true then ((Fl.bindO (modI s_184.2 p_many) fun y_188 => if len1 s_184.1.length = true then (Fl.bindO (divI s_184.2 p_many) fun rest_190 => (.nx ((s_184.1 ++ [y_188]), rest_190))) else .err) : Fl ((List Int) × Int) ((List Int) × Int) (List Int)) else (Fl.bindO (((((((((mulI p_cell (48271 : Int))).bind fun v_192 => ((mulI i_185 (69621 : Int))).bind fun v_193 => some (v_192 + v_193))).bind fun v_194 => ((some (1013 : Int))).bind fun v_195 => some (v_194 + v_195))).bind fun v_196 => some v_196)).bind fun v_197 => ((some (2147483647 : Int))).bind fun v_198 => (modI v_197 v_198)) fun mixed_191 => (Fl.bindO (((((((((mulI mixed_191 mixed_191)).bind fun v_200 => ((mulI (7 : Int) mixed_191)).bind fun v_201 => some (v_200 + v_201))).bind fun v_202 => ((some i_185)).bind fun v_203 => some (v_202 + v_203))).bind fun v_204 => some v_204)).bind fun v_205 => ((some (2147483629 : Int))).bind fun v_206 => (modI v_205 v_206)) fun mixed_199 => (Fl.bindO (((((divI mixed_199 (31 : Int))).bind fun v_207 => some v_207)).bind fun v_208 => ((some p_many)).bind fun v_209 => (modI v_208 v_209)) fun y_210 => if len1 s_184.1.length = true then (.nx ((s_184.1 ++ [y_210]), s_184.2)) else .err)))) fun s_213 => (.nx (s_213.1, s_213.2))) : Fl ((List Int) × Int) ((List Int) × Int) (List Int))) xs_216 (digits_182, rest_183) : Fl ((List Int) × Int) Unit (List Int)) fun s_214 => (Fl.bindO (some s_214.1) fun r_215 => .rt r_215))))
def m_law_digits (p_cell : Int) (p_many : Int) (p_count : Int) : Option (List Int) := (fl_law_digits p_cell p_many p_count).fin none
theorem b_law_digits (T : Tx K mg C fI fdI G fG fdG) (p : Int × Int × Int × Unit) : DeS (ctOf P w K mg base 0 ["cell", "many", "count", "digits", "rest", "k", "mixed"] (defScope s_law_digits)) (Pk.sl p ++ List.replicate (7 - (Pk.sl p).length) .any) (defBody s_law_digits) (fun _ : Unit => List.replicate 7 .any) (fun _ : Unit => []) (fl_law_digits p.1 p.2.1 p.2.2.1) := by
  obtain ⟨p_cell, p_many, p_count, _⟩ := p
  unfold fl_law_digits
  exact (ds_own (i := 3) (as_n 3 (dn_lstP di_nil) sc_law_digits.nd rfl (by first | exact Or.inl rfl | exact Or.inr rfl) (by first | exact Or.inl rfl | exact Or.inr rfl) (fun _ _ => rfl)) (fun digits_182 => (ds_set (i := 4) (as_e (m := (some p_cell)) 4 (de_var 0 rfl rfl (by first | exact Or.inl rfl | exact Or.inr (Or.inl rfl) | exact Or.inr (Or.inr rfl))) sc_law_digits.nd rfl (by first | exact Or.inl rfl | exact Or.inr rfl) (by first | exact Or.inl rfl | exact Or.inr rfl) (fun _ _ => rfl)) (fun rest_183 => (ds_for (sk := (fun (s : ((List Int) × Int)) => ([.val (p_cell : Int), .val (p_many : Int), .val (p_count : Int), .own (s.1 : (List Int)), .val (s.2 : Int), .any, .any] : List Slot))) (s0 := (digits_182, rest_183)) (di_rangeP  T.range (de_var 2 rfl rfl (by first | exact Or.inl rfl | exact Or.inr (Or.inl rfl) | exact Or.inr (Or.inr rfl)))) (dg_name 5 sc_law_digits.nd rfl (by first | exact Or.inl rfl | exact Or.inr rfl) (by first | exact Or.inl rfl | exact Or.inr rfl)) (.same (.same (.same (.same (.same (.any (.any .nil))))))) (fun i_185 s_184 => (ds_if (jk := (fun (s : ((List Int) × Int)) => ([.val (p_cell : Int), .val (p_many : Int), .val (p_count : Int), .own (s.1 : (List Int)), .val (s.2 : Int), .val (i_185 : Int), .any] : List Slot))) (mt := (((some p_cell)).bind fun v_186 => ((powI (10 : Int) (18 : Int))).bind fun v_187 => some (decide (v_187 ≤ v_186)))) (dt_c1 (ma := (some p_cell)) (mb := (powI (10 : Int) (18 : Int))) (f := fun (x : Int) (y : Int) => some (decide (y ≤ x))) cmp_ge (de_var 0 rfl rfl (by first | exact Or.inl rfl | exact Or.inr (Or.inl rfl) | exact Or.inr (Or.inr rfl))) (de_powP de_int de_int)) (ds_append 3 rfl rfl (by first | exact Or.inl rfl | exact Or.inr (Or.inl rfl) | exact Or.inr (Or.inr rfl)) (de_modP (de_intIP T.int (de_var 4 rfl rfl (by first | exact Or.inl rfl | exact Or.inr (Or.inl rfl) | exact Or.inr (Or.inr rfl)))) (de_var 1 rfl rfl (by first | exact Or.inl rfl | exact Or.inr (Or.inl rfl) | exact Or.inr (Or.inr rfl)))) (fun y_188 => (ds_set (i := 4) (as_e (m := (divI s_184.2 p_many)) 4 (de_divP (de_var 4 rfl rfl (by first | exact Or.inl rfl | exact Or.inr (Or.inl rfl) | exact Or.inr (Or.inr rfl))) (de_var 1 rfl rfl (by first | exact Or.inl rfl | exact Or.inr (Or.inl rfl) | exact Or.inr (Or.inr rfl)))) sc_law_digits.nd rfl (by first | exact Or.inl rfl | exact Or.inr rfl) (by first | exact Or.inl rfl | exact Or.inr rfl) (fun _ _ => rfl)) (fun rest_190 => (ds_end (s := ((s_184.1 ++ [y_188]), rest_190)) (.same (.same (.same (.same (.same (.same (.any .nil))))))))))) (k := fun digits_189 => (Fl.bindO (divI s_184.2 p_many) fun rest_190 => (.nx (digits_189, rest_190))))) (ds_set (i := 6) (as_e (m := (((((((((mulI p_cell (48271 : Int))).bind fun v_192 => ((mulI i_185 (69621 : Int))).bind fun v_193 => some (v_192 + v_193))).bind fun v_194 => ((some (1013 : Int))).bind fun v_195 => some (v_194 + v_195))).bind fun v_196 => some v_196)).bind fun v_197 => ((some (2147483647 : Int))).bind fun v_198 => (modI v_197 v_198))) 6 (de_mod (ma := (((((((mulI p_cell (48271 : Int))).bind fun v_192 => ((mulI i_185 (69621 : Int))).bind fun v_193 => some (v_192 + v_193))).bind fun v_194 => ((some (1013 : Int))).bind fun v_195 => some (v_194 + v_195))).bind fun v_196 => some v_196)) (mb := (some (2147483647 : Int))) (de_intI (m := (((((mulI p_cell (48271 : Int))).bind fun v_192 => ((mulI i_185 (69621 : Int))).bind fun v_193 => some (v_192 + v_193))).bind fun v_194 => ((some (1013 : Int))).bind fun v_195 => some (v_194 + v_195))) T.int (de_add (ma := (((mulI p_cell (48271 : Int))).bind fun v_192 => ((mulI i_185 (69621 : Int))).bind fun v_193 => some (v_192 + v_193))) (mb := (some (1013 : Int))) (de_add (ma := (mulI p_cell (48271 : Int))) (mb := (mulI i_185 (69621 : Int))) (de_mulP (de_var 0 rfl rfl (by first | exact Or.inl rfl | exact Or.inr (Or.inl rfl) | exact Or.inr (Or.inr rfl))) de_int) (de_mulP (de_var 5 rfl rfl (by first | exact Or.inl rfl | exact Or.inr (Or.inl rfl) | exact Or.inr (Or.inr rfl))) de_int)) de_int)) de_int) sc_law_digits.nd rfl (by first | exact Or.inl rfl | exact Or.inr rfl) (by first | exact Or.inl rfl | exact Or.inr rfl) (fun _ _ => rfl)) (fun mixed_191 => (ds_set (i := 6) (as_e (m := (((((((((mulI mixed_191 mixed_191)).bind fun v_200 => ((mulI (7 : Int) mixed_191)).bind fun v_201 => some (v_200 + v_201))).bind fun v_202 => ((some i_185)).bind fun v_203 => some (v_202 + v_203))).bind fun v_204 => some v_204)).bind fun v_205 => ((some (2147483629 : Int))).bind fun v_206 => (modI v_205 v_206))) 6 (de_mod (ma := (((((((mulI mixed_191 mixed_191)).bind fun v_200 => ((mulI (7 : Int) mixed_191)).bind fun v_201 => some (v_200 + v_201))).bind fun v_202 => ((some i_185)).bind fun v_203 => some (v_202 + v_203))).bind fun v_204 => some v_204)) (mb := (some (2147483629 : Int))) (de_intI (m := (((((mulI mixed_191 mixed_191)).bind fun v_200 => ((mulI (7 : Int) mixed_191)).bind fun v_201 => some (v_200 + v_201))).bind fun v_202 => ((some i_185)).bind fun v_203 => some (v_202 + v_203))) T.int (de_add (ma := (((mulI mixed_191 mixed_191)).bind fun v_200 => ((mulI (7 : Int) mixed_191)).bind fun v_201 => some (v_200 + v_201))) (mb := (some i_185)) (de_add (ma := (mulI mixed_191 mixed_191)) (mb := (mulI (7 : Int) mixed_191)) (de_mulP (de_var 6 rfl rfl (by first | exact Or.inl rfl | exact Or.inr (Or.inl rfl) | exact Or.inr (Or.inr rfl))) (de_var 6 rfl rfl (by first | exact Or.inl rfl | exact Or.inr (Or.inl rfl) | exact Or.inr (Or.inr rfl)))) (de_mulP de_int (de_var 6 rfl rfl (by first | exact Or.inl rfl | exact Or.inr (Or.inl rfl) | exact Or.inr (Or.inr rfl))))) (de_var 5 rfl rfl (by first | exact Or.inl rfl | exact Or.inr (Or.inl rfl) | exact Or.inr (Or.inr rfl))))) de_int) sc_law_digits.nd rfl (by first | exact Or.inl rfl | exact Or.inr rfl) (by first | exact Or.inl rfl | exact Or.inr rfl) (fun _ _ => rfl)) (fun mixed_199 => (ds_append 3 rfl rfl (by first | exact Or.inl rfl | exact Or.inr (Or.inl rfl) | exact Or.inr (Or.inr rfl)) (de_mod (ma := (((divI mixed_199 (31 : Int))).bind fun v_207 => some v_207)) (mb := (some p_many)) (de_intI (m := (divI mixed_199 (31 : Int))) T.int (de_divP (de_var 6 rfl rfl (by first | exact Or.inl rfl | exact Or.inr (Or.inl rfl) | exact Or.inr (Or.inr rfl))) de_int)) (de_var 1 rfl rfl (by first | exact Or.inl rfl | exact Or.inr (Or.inl rfl) | exact Or.inr (Or.inr rfl)))) (fun y_210 => (ds_end (s := ((s_184.1 ++ [y_210]), s_184.2)) (.same (.same (.same (.same (.same (.same (.any .nil))))))))) (k := fun digits_211 => (.nx (digits_211, s_184.2)))))))) (fun s_213 => (ds_end (s := (s_213.1, s_213.2)) (.same (.same (.same (.same (.same (.any (.any .nil))))))))))) (fun s_214 => (ds_freeze 3 rfl (ds_ret (m := (some s_214.1)) (de_var 3 rfl rfl (by first | exact Or.inl rfl | exact Or.inr (Or.inl rfl) | exact Or.inr (Or.inr rfl)))))))))))
theorem g_law_digits (T : Tx K mg C fI fdI G fG fdG) : Gd P w K mg base 1 "_law_digits" (fun p : Int × Int × Int × Unit => m_law_digits p.1 p.2.1 p.2.2.1) := T.law_digits.gd sc_law_digits (by decide) (fun _ => rfl) (fun _ h => nomatch h) (b_law_digits T)

theorem sc_law_points : FnScope ["prime", "count", "found", "k", "longer", "row", "number"] ["prime", "count"] (defScope s_law_points) := ⟨rfl, rfl, rfl, by decide +kernel, rfl, by decide +kernel, by decide +kernel⟩
def fl_law_points (p_prime : Int) (p_count : Int) : Fl Unit Unit (List (Tup Int)) := (Fl.bindO (some ([(⟨([] : List Int)⟩ : Tup Int)] : List (Tup Int))) fun found_217 => (Fl.bindO (rangeI p_count) fun xs_233 => Fl.bind (Fl.loop (fun (i_219 : Int) (s_218 : ((List (Tup Int)))) => ((Fl.bindO (some ([] : List (Tup Int))) fun longer_220 => (Fl.bindO (some s_218) fun xs_230 => Fl.bind (Fl.loop (fun (i_222 : (Tup Int)) (s_221 : ((List (Tup Int)))) => ((Fl.bindO (((rangeI p_prime)).bind fun xs_224 => (capI xs_224).bind fun xs_224 => mapO (fun (i_223 : Int) => (catU i_222 (⟨([i_223] : List Int)⟩ : Tup Int))) xs_224) fun y_225 => if len1 (s_221.length + y_225.length) = true then (.nx (s_221 ++ y_225)) else .err) : Fl ((List (Tup Int))) ((List (Tup Int))) (List (Tup Int)))) xs_230 longer_220 : Fl ((List (Tup Int))) ((List (Tup Int))) (List (Tup Int))) fun s_227 => (Fl.bindO (some s_227) fun found_229 => (.nx found_229)))) : Fl ((List (Tup Int))) ((List (Tup Int))) (List (Tup Int)))) xs_233 found_217 : Fl ((List (Tup Int))) Unit (List (Tup Int))) fun s_231 => (Fl.bindO (some s_231) fun r_232 => .rt r_232)))
def m_law_points (p_prime : Int) (p_count : Int) : Option (List (Tup Int)) := (fl_law_points p_prime p_count).fin none
theorem b_law_points (T : Tx K mg C fI fdI G fG fdG) (p : Int × Int × Unit) : DeS (ctOf P w K mg base 0 ["prime", "count", "found", "k", "longer", "row", "number"] (defScope s_law_points)) (Pk.sl p ++ List.replicate (7 - (Pk.sl p).length) .any) (defBody s_law_points) (fun _ : Unit => List.replicate 7 .any) (fun _ : Unit => []) (fl_law_points p.1 p.2.1) := by
  obtain ⟨p_prime, p_count, _⟩ := p
  unfold fl_law_points
  exact (ds_set (i := 2) (as_e (m := (some ([(⟨([] : List Int)⟩ : Tup Int)] : List (Tup Int)))) 2 (DeN.de (dn_lstP (di_consP (de_tupHP di_nil) di_nil))) sc_law_points.nd rfl (by first | exact Or.inl rfl | exact Or.inr rfl) (by first | exact Or.inl rfl | exact Or.inr rfl) (fun _ _ => rfl)) (fun found_217 => (ds_for (sk := (fun (s : ((List (Tup Int)))) => ([.val (p_prime : Int), .val (p_count : Int), .val (s : (List (Tup Int))), .any, .any, .any, .any] : List Slot))) (s0 := found_217) (di_rangeP  T.range (de_var 1 rfl rfl (by first | exact Or.inl rfl | exact Or.inr (Or.inl rfl) | exact Or.inr (Or.inr rfl)))) (dg_name 3 sc_law_points.nd rfl (by first | exact Or.inl rfl | exact Or.inr rfl) (by first | exact Or.inl rfl | exact Or.inr rfl)) (.same (.same (.same (.any (.any (.any (.any .nil))))))) (fun i_219 s_218 => (ds_own (i := 4) (as_n 4 (dn_lstP di_nil) sc_law_points.nd rfl (by first | exact Or.inl rfl | exact Or.inr rfl) (by first | exact Or.inl rfl | exact Or.inr rfl) (fun _ _ => rfl)) (fun longer_220 => (ds_for (sk := (fun (s : ((List (Tup Int)))) => ([.val (p_prime : Int), .val (p_count : Int), .val (s_218 : (List (Tup Int))), .val (i_219 : Int), .own (s : (List (Tup Int))), .any, .any] : List Slot))) (s0 := longer_220) (di_list (m := (some s_218)) (de_var 2 rfl rfl (by first | exact Or.inl rfl | exact Or.inr (Or.inl rfl) | exact Or.inr (Or.inr rfl)))) (dg_name 5 sc_law_points.nd rfl (by first | exact Or.inl rfl | exact Or.inr rfl) (by first | exact Or.inl rfl | exact Or.inr rfl)) (.same (.same (.same (.same (.same (.any (.any .nil))))))) (fun i_222 s_221 => (ds_extend 4 rfl rfl (by first | exact Or.inl rfl | exact Or.inr (Or.inl rfl) | exact Or.inr (Or.inr rfl)) (dn_comp (own := [("number", 6)]) sc_law_points.nd (di_rangeP  T.range (de_var 0 rfl rfl (by first | exact Or.inl rfl | exact Or.inr (Or.inl rfl) | exact Or.inr (Or.inr rfl)))) (blkOk_by (by dsimp only [ctOf, Ct.blk]; decide +kernel)) (dg_name 6 sc_law_points.nd rfl (by first | exact Or.inl rfl | exact Or.inr rfl) (by first | exact Or.inl rfl | exact Or.inr rfl)) (by decide) (fun i_223 => (de_catUP (de_var 5 rfl rfl (by first | exact Or.inl rfl | exact Or.inr (Or.inl rfl) | exact Or.inr (Or.inr rfl))) (de_tupHP (di_consP (de_var 6 rfl rfl (by first | exact Or.inl rfl | exact Or.inr (Or.inl rfl) | exact Or.inr (Or.inr rfl))) di_nil))))) (fun y_225 => (ds_end (s := (s_221 ++ y_225)) (.same (.same (.same (.same (.same (.any (.any .nil))))))))) (k := fun longer_226 => (.nx longer_226)))) (fun s_227 => (ds_freeze 4 rfl (ds_set (i := 2) (as_e (m := (some s_227)) 2 (de_var 4 rfl rfl (by first | exact Or.inl rfl | exact Or.inr (Or.inl rfl) | exact Or.inr (Or.inr rfl))) sc_law_points.nd rfl (by first | exact Or.inl rfl | exact Or.inr rfl) (by first | exact Or.inl rfl | exact Or.inr rfl) (fun _ _ => rfl)) (fun found_229 => (ds_end (s := found_229) (.same (.same (.same (.any (.any (.any (.any .nil)))))))))))))))) (fun s_231 => (ds_ret (m := (some s_231)) (de_var 2 rfl rfl (by first | exact Or.inl rfl | exact Or.inr (Or.inl rfl) | exact Or.inr (Or.inr rfl))))))))
theorem g_law_points (T : Tx K mg C fI fdI G fG fdG) : Gd P w K mg base 1 "_law_points" (fun p : Int × Int × Unit => m_law_points p.1 p.2.1) := T.law_points.gd sc_law_points (by decide) (fun _ => rfl) (fun _ h => nomatch h) (b_law_points T)

theorem sc_law_power_value : FnScope ["prime", "power", "point", "found", "k", "turn"] ["prime", "power", "point"] (defScope s_law_power_value) := ⟨rfl, rfl, rfl, by decide +kernel, rfl, by decide +kernel, by decide +kernel⟩
def fl_law_power_value (p_prime : Int) (p_power : (Tup Int)) (p_point : (Tup Int)) : Fl Unit Unit Int := (Fl.bindO (some (1 : Int)) fun found_234 => (Fl.bindO (rangeI (p_power.l.length : Int)) fun xs_250 => Fl.bind (Fl.loop (fun (i_236 : Int) (s_235 : (Int)) => ((Fl.bindO (((atI p_power.l i_236)).bind fun v_237 => (rangeI v_237)) fun xs_247 => Fl.bind (Fl.loop (fun (i_239 : Int) (s_238 : (Int)) => ((Fl.bindO (((((((some s_238)).bind fun v_241 => ((atI p_point.l i_236)).bind fun v_242 => (mulI v_241 v_242))).bind fun v_243 => some v_243)).bind fun v_244 => ((some p_prime)).bind fun v_245 => (modI v_244 v_245)) fun found_240 => (.nx found_240)) : Fl (Int) (Int) Int)) xs_247 s_235 : Fl (Int) (Int) Int) fun s_246 => (.nx s_246)) : Fl (Int) (Int) Int)) xs_250 found_234 : Fl (Int) Unit Int) fun s_248 => (Fl.bindO (some s_248) fun r_249 => .rt r_249)))
def m_law_power_value (p_prime : Int) (p_power : (Tup Int)) (p_point : (Tup Int)) : Option Int := (fl_law_power_value p_prime p_power p_point).fin none
theorem b_law_power_value (T : Tx K mg C fI fdI G fG fdG) (p : Int × (Tup Int) × (Tup Int) × Unit) : DeS (ctOf P w K mg base 0 ["prime", "power", "point", "found", "k", "turn"] (defScope s_law_power_value)) (Pk.sl p ++ List.replicate (6 - (Pk.sl p).length) .any) (defBody s_law_power_value) (fun _ : Unit => List.replicate 6 .any) (fun _ : Unit => []) (fl_law_power_value p.1 p.2.1 p.2.2.1) := by
  obtain ⟨p_prime, p_power, p_point, _⟩ := p
  unfold fl_law_power_value
  exact (ds_set (i := 3) (as_e (m := (some (1 : Int))) 3 de_int sc_law_power_value.nd rfl (by first | exact Or.inl rfl | exact Or.inr rfl) (by first | exact Or.inl rfl | exact Or.inr rfl) (fun _ _ => rfl)) (fun found_234 => (ds_for (sk := (fun (s : (Int)) => ([.val (p_prime : Int), .val (p_power : (Tup Int)), .val (p_point : (Tup Int)), .val (s : Int), .any, .any] : List Slot))) (s0 := found_234) (di_rangeP  T.range (de_lenUP  T.len (de_var 1 rfl rfl (by first | exact Or.inl rfl | exact Or.inr (Or.inl rfl) | exact Or.inr (Or.inr rfl))))) (dg_name 4 sc_law_power_value.nd rfl (by first | exact Or.inl rfl | exact Or.inr rfl) (by first | exact Or.inl rfl | exact Or.inr rfl)) (.same (.same (.same (.same (.any (.any .nil)))))) (fun i_236 s_235 => (ds_for (sk := (fun (s : (Int)) => ([.val (p_prime : Int), .val (p_power : (Tup Int)), .val (p_point : (Tup Int)), .val (s : Int), .val (i_236 : Int), .any] : List Slot))) (s0 := s_235) (di_range (m := (atI p_power.l i_236)) T.range (de_ixTP (de_var 1 rfl rfl (by first | exact Or.inl rfl | exact Or.inr (Or.inl rfl) | exact Or.inr (Or.inr rfl))) (de_var 4 rfl rfl (by first | exact Or.inl rfl | exact Or.inr (Or.inl rfl) | exact Or.inr (Or.inr rfl))))) (dg_name 5 sc_law_power_value.nd rfl (by first | exact Or.inl rfl | exact Or.inr rfl) (by first | exact Or.inl rfl | exact Or.inr rfl)) (.same (.same (.same (.same (.same (.any .nil)))))) (fun i_239 s_238 => (ds_set (i := 3) (as_e (m := (((((((some s_238)).bind fun v_241 => ((atI p_point.l i_236)).bind fun v_242 => (mulI v_241 v_242))).bind fun v_243 => some v_243)).bind fun v_244 => ((some p_prime)).bind fun v_245 => (modI v_244 v_245))) 3 (de_mod (ma := (((((some s_238)).bind fun v_241 => ((atI p_point.l i_236)).bind fun v_242 => (mulI v_241 v_242))).bind fun v_243 => some v_243)) (mb := (some p_prime)) (de_intI (m := (((some s_238)).bind fun v_241 => ((atI p_point.l i_236)).bind fun v_242 => (mulI v_241 v_242))) T.int (de_mul (ma := (some s_238)) (mb := (atI p_point.l i_236)) (de_var 3 rfl rfl (by first | exact Or.inl rfl | exact Or.inr (Or.inl rfl) | exact Or.inr (Or.inr rfl))) (de_ixTP (de_var 2 rfl rfl (by first | exact Or.inl rfl | exact Or.inr (Or.inl rfl) | exact Or.inr (Or.inr rfl))) (de_var 4 rfl rfl (by first | exact Or.inl rfl | exact Or.inr (Or.inl rfl) | exact Or.inr (Or.inr rfl)))))) (de_var 0 rfl rfl (by first | exact Or.inl rfl | exact Or.inr (Or.inl rfl) | exact Or.inr (Or.inr rfl)))) sc_law_power_value.nd rfl (by first | exact Or.inl rfl | exact Or.inr rfl) (by first | exact Or.inl rfl | exact Or.inr rfl) (fun _ _ => rfl)) (fun found_240 => (ds_end (s := found_240) (.same (.same (.same (.same (.same (.any .nil)))))))))) (fun s_246 => (ds_end (s := s_246) (.same (.same (.same (.same (.any (.any .nil)))))))))) (fun s_248 => (ds_ret (m := (some s_248)) (de_var 3 rfl rfl (by first | exact Or.inl rfl | exact Or.inr (Or.inl rfl) | exact Or.inr (Or.inr rfl))))))))
theorem g_law_power_value (T : Tx K mg C fI fdI G fG fdG) : Gd P w K mg base 1 "_law_power_value" (fun p : Int × (Tup Int) × (Tup Int) × Unit => m_law_power_value p.1 p.2.1 p.2.2.1) := T.law_power_value.gd sc_law_power_value (by decide) (fun _ => rfl) (fun _ h => nomatch h) (b_law_power_value T)

theorem sc_law_value : FnScope ["prime", "one", "point", "total", "power", "number"] ["prime", "one", "point"] (defScope s_law_value) := ⟨rfl, rfl, rfl, by decide +kernel, rfl, by decide +kernel, by decide +kernel⟩
def fl_law_value (p_prime : Int) (p_one : (Tup ((Tup Int) × Int))) (p_point : (Tup Int)) : Fl Unit Unit Int := (Fl.bindO (some (0 : Int)) fun total_251 => (Fl.bindO (some p_one.l) fun xs_261 => Fl.bind (Fl.loop (fun (i_253 : ((Tup Int) × Int)) (s_252 : (Int)) => ((Fl.bindO (((some s_252)).bind fun v_257 => ((((some i_253.2)).bind fun v_255 => ((m_law_power_value p_prime i_253.1 p_point)).bind fun v_256 => (mulI v_255 v_256))).bind fun v_258 => some (v_257 + v_258)) fun total_254 => (.nx total_254)) : Fl (Int) (Int) Int)) xs_261 total_251 : Fl (Int) Unit Int) fun s_259 => (Fl.bindO (modI s_259 p_prime) fun r_260 => .rt r_260)))
def m_law_value (p_prime : Int) (p_one : (Tup ((Tup Int) × Int))) (p_point : (Tup Int)) : Option Int := (fl_law_value p_prime p_one p_point).fin none
theorem b_law_value (T : Tx K mg C fI fdI G fG fdG) (p : Int × (Tup ((Tup Int) × Int)) × (Tup Int) × Unit) : DeS (ctOf P w K mg base 1 ["prime", "one", "point", "total", "power", "number"] (defScope s_law_value)) (Pk.sl p ++ List.replicate (6 - (Pk.sl p).length) .any) (defBody s_law_value) (fun _ : Unit => List.replicate 6 .any) (fun _ : Unit => []) (fl_law_value p.1 p.2.1 p.2.2.1) := by
  obtain ⟨p_prime, p_one, p_point, _⟩ := p
  unfold fl_law_value
  exact (ds_set (i := 3) (as_e (m := (some (0 : Int))) 3 de_int sc_law_value.nd rfl (by first | exact Or.inl rfl | exact Or.inr rfl) (by first | exact Or.inl rfl | exact Or.inr rfl) (fun _ _ => rfl)) (fun total_251 => (ds_for (sk := (fun (s : (Int)) => ([.val (p_prime : Int), .val (p_one : (Tup ((Tup Int) × Int))), .val (p_point : (Tup Int)), .val (s : Int), .any, .any] : List Slot))) (s0 := total_251) (di_tup (m := (some p_one)) (de_var 1 rfl rfl (by first | exact Or.inl rfl | exact Or.inr (Or.inl rfl) | exact Or.inr (Or.inr rfl)))) (dg_pair (dg_name 4 sc_law_value.nd rfl (by first | exact Or.inl rfl | exact Or.inr rfl) (by first | exact Or.inl rfl | exact Or.inr rfl)) (dg_name 5 sc_law_value.nd rfl (by first | exact Or.inl rfl | exact Or.inr rfl) (by first | exact Or.inl rfl | exact Or.inr rfl))) (.same (.same (.same (.same (.any (.any .nil)))))) (fun i_253 s_252 => (ds_set (i := 3) (as_e (m := (((some s_252)).bind fun v_257 => ((((some i_253.2)).bind fun v_255 => ((m_law_power_value p_prime i_253.1 p_point)).bind fun v_256 => (mulI v_255 v_256))).bind fun v_258 => some (v_257 + v_258))) 3 (de_add (ma := (some s_252)) (mb := (((some i_253.2)).bind fun v_255 => ((m_law_power_value p_prime i_253.1 p_point)).bind fun v_256 => (mulI v_255 v_256))) (de_var 3 rfl rfl (by first | exact Or.inl rfl | exact Or.inr (Or.inl rfl) | exact Or.inr (Or.inr rfl))) (de_mul (ma := (some i_253.2)) (mb := (m_law_power_value p_prime i_253.1 p_point)) (de_var 5 rfl rfl (by first | exact Or.inl rfl | exact Or.inr (Or.inl rfl) | exact Or.inr (Or.inr rfl))) (de_call3P (a1 := p_prime) (a2 := i_253.1) (a3 := p_point) (f := fun p : Int × (Tup Int) × (Tup Int) × Unit => m_law_power_value p.1 p.2.1 p.2.2.1) ((g_law_power_value T).df) (de_var 0 rfl rfl (by first | exact Or.inl rfl | exact Or.inr (Or.inl rfl) | exact Or.inr (Or.inr rfl))) (de_var 4 rfl rfl (by first | exact Or.inl rfl | exact Or.inr (Or.inl rfl) | exact Or.inr (Or.inr rfl))) (de_var 2 rfl rfl (by first | exact Or.inl rfl | exact Or.inr (Or.inl rfl) | exact Or.inr (Or.inr rfl)))))) sc_law_value.nd rfl (by first | exact Or.inl rfl | exact Or.inr rfl) (by first | exact Or.inl rfl | exact Or.inr rfl) (fun _ _ => rfl)) (fun total_254 => (ds_end (s := total_254) (.same (.same (.same (.same (.any (.any .nil)))))))))) (fun s_259 => (ds_ret (m := (modI s_259 p_prime)) (de_modP (de_intIP T.int (de_var 3 rfl rfl (by first | exact Or.inl rfl | exact Or.inr (Or.inl rfl) | exact Or.inr (Or.inr rfl)))) (de_var 0 rfl rfl (by first | exact Or.inl rfl | exact Or.inr (Or.inl rfl) | exact Or.inr (Or.inr rfl)))))))))
theorem g_law_value (T : Tx K mg C fI fdI G fG fdG) : Gd P w K mg base 2 "_law_value" (fun p : Int × (Tup ((Tup Int) × Int)) × (Tup Int) × Unit => m_law_value p.1 p.2.1 p.2.2.1) := T.law_value.gd sc_law_value (by decide) (fun _ => rfl) (fun _ h => nomatch h) (b_law_value T)

theorem sc_law_is_tuple_point : FnScope ["prime", "count", "thing", "number"] ["prime", "count", "thing"] (defScope s_law_is_tuple_point) := ⟨rfl, rfl, rfl, by decide +kernel, rfl, by decide +kernel, by decide +kernel⟩
def fl_law_is_tuple_point (p_prime : Int) (p_count : Int) (p_thing : (Tup Int)) : Fl Unit Unit Bool := (Fl.bindO (andO (some (decide ((p_thing.l.length : Int) = p_count))) (((((some p_thing.l)).bind fun xs_265 => (capI xs_265).bind fun xs_265 => mapO (fun (i_262 : Int) => (chO (fun a_263 b_264 => some (decide (a_263 ≤ b_264))) (fun a_263 b_264 => some (decide (a_263 < b_264))) (some (0 : Int)) (some i_262) (some p_prime))) xs_265)).bind fun v_266 => some (v_266.all id))) fun r_267 => .rt r_267)
def m_law_is_tuple_point (p_prime : Int) (p_count : Int) (p_thing : (Tup Int)) : Option Bool := (fl_law_is_tuple_point p_prime p_count p_thing).fin none
theorem b_law_is_tuple_point (T : Tx K mg C fI fdI G fG fdG) (p : Int × Int × (Tup Int) × Unit) : DeS (ctOf P w K mg base 0 ["prime", "count", "thing", "number"] (defScope s_law_is_tuple_point)) (Pk.sl p ++ List.replicate (4 - (Pk.sl p).length) .any) (defBody s_law_is_tuple_point) (fun _ : Unit => List.replicate 4 .any) (fun _ : Unit => []) (fl_law_is_tuple_point p.1 p.2.1 p.2.2.1) := by
  obtain ⟨p_prime, p_count, p_thing, _⟩ := p
  unfold fl_law_is_tuple_point
  exact (ds_ret (m := (andO (some (decide ((p_thing.l.length : Int) = p_count))) (((((some p_thing.l)).bind fun xs_265 => (capI xs_265).bind fun xs_265 => mapO (fun (i_262 : Int) => (chO (fun a_263 b_264 => some (decide (a_263 ≤ b_264))) (fun a_263 b_264 => some (decide (a_263 < b_264))) (some (0 : Int)) (some i_262) (some p_prime))) xs_265)).bind fun v_266 => some (v_266.all id)))) (de_and (de_cP (f := fun (x : Int) (y : Int) => some (decide (x = y))) cmp_eqI (de_lenUP  T.len (de_var 2 rfl rfl (by first | exact Or.inl rfl | exact Or.inr (Or.inl rfl) | exact Or.inr (Or.inr rfl)))) (de_var 1 rfl rfl (by first | exact Or.inl rfl | exact Or.inr (Or.inl rfl) | exact Or.inr (Or.inr rfl)))) (de_one (de_all (m := (((some p_thing.l)).bind fun xs_265 => (capI xs_265).bind fun xs_265 => mapO (fun (i_262 : Int) => (chO (fun a_263 b_264 => some (decide (a_263 ≤ b_264))) (fun a_263 b_264 => some (decide (a_263 < b_264))) (some (0 : Int)) (some i_262) (some p_prime))) xs_265)) T.all (DeN.l (dn_comp (own := [("number", 3)]) sc_law_is_tuple_point.nd (di_tup (m := (some p_thing)) (de_var 2 rfl rfl (by first | exact Or.inl rfl | exact Or.inr (Or.inl rfl) | exact Or.inr (Or.inr rfl)))) (blkOk_by (by dsimp only [ctOf, Ct.blk]; decide +kernel)) (dg_name 3 sc_law_is_tuple_point.nd rfl (by first | exact Or.inl rfl | exact Or.inr rfl) (by first | exact Or.inl rfl | exact Or.inr rfl)) (by decide) (fun i_262 => (de_chain (ma := (some (0 : Int))) (mb := (some i_262)) (mc := (some p_prime)) (f := (fun a_263 b_264 => some (decide (a_263 ≤ b_264)))) (g := (fun a_263 b_264 => some (decide (a_263 < b_264)))) cmp_le cmp_lt de_int (de_var 3 rfl rfl (by first | exact Or.inl rfl | exact Or.inr (Or.inl rfl) | exact Or.inr (Or.inr rfl))) (de_var 0 rfl rfl (by first | exact Or.inl rfl | exact Or.inr (Or.inl rfl) | exact Or.inr (Or.inr rfl)))))))))))
theorem g_law_is_tuple_point (T : Tx K mg C fI fdI G fG fdG) : Gd P w K mg base 1 "_law_is_tuple_point" (fun p : Int × Int × (Tup Int) × Unit => m_law_is_tuple_point p.1 p.2.1 p.2.2.1) := T.law_is_tuple_point.gd sc_law_is_tuple_point (by decide) (fun _ => rfl) (fun _ h => nomatch h) (b_law_is_tuple_point T)

theorem sc_law_is_polynomial : FnScope ["prime", "count", "thing", "k", "power", "number"] ["prime", "count", "thing"] (defScope s_law_is_polynomial) := ⟨rfl, rfl, rfl, by decide +kernel, rfl, by decide +kernel, by decide +kernel⟩
def fl_law_is_polynomial (p_prime : Int) (p_count : Int) (p_thing : (Tup ((Tup Int) × Int))) : Fl Unit Unit Bool := (Fl.bindO (rangeI (p_thing.l.length : Int)) fun xs_286 => Fl.bind (Fl.loop (fun (i_269 : Int) (s_268 : Unit) => ((Fl.bindO (atI p_thing.l i_269) fun t_270 => (Fl.bindO (orO (((m_law_is_tuple_point p_prime p_count t_270.1)).bind fun v_271 => some (!v_271)) (((chO (fun a_272 b_273 => some (decide (a_272 < b_273))) (fun a_272 b_273 => some (decide (a_272 < b_273))) (some (0 : Int)) (some t_270.2) (some p_prime))).bind fun v_274 => some (!v_274))) fun v_276 => Fl.bind (if v_276 = true then ((Fl.bindO (some false) fun r_275 => .rt r_275) : Fl Unit Unit Bool) else (.nx ())) fun s_277 => (Fl.bindO (andO (some (decide ((0 : Int) < i_269))) (((((some t_270.1)).bind fun v_278 => ((((atI p_thing.l (i_269 - (1 : Int)))).map (fun z : ((Tup Int) × Int) => z.1))).bind fun v_279 => (ltD v_278 v_279))).bind fun v_280 => some (!v_280))) fun v_282 => Fl.bind (if v_282 = true then ((Fl.bindO (some false) fun r_281 => .rt r_281) : Fl Unit Unit Bool) else (.nx ())) fun s_283 => (.nx ())))) : Fl Unit Unit Bool)) xs_286 () : Fl Unit Unit Bool) fun s_284 => (Fl.bindO (some true) fun r_285 => .rt r_285))
def m_law_is_polynomial (p_prime : Int) (p_count : Int) (p_thing : (Tup ((Tup Int) × Int))) : Option Bool := (fl_law_is_polynomial p_prime p_count p_thing).fin none
theorem b_law_is_polynomial (T : Tx K mg C fI fdI G fG fdG) (p : Int × Int × (Tup ((Tup Int) × Int)) × Unit) : DeS (ctOf P w K mg base 1 ["prime", "count", "thing", "k", "power", "number"] (defScope s_law_is_polynomial)) (Pk.sl p ++ List.replicate (6 - (Pk.sl p).length) .any) (defBody s_law_is_polynomial) (fun _ : Unit => List.replicate 6 .any) (fun _ : Unit => []) (fl_law_is_polynomial p.1 p.2.1 p.2.2.1) := by
  obtain ⟨p_prime, p_count, p_thing, _⟩ := p
  unfold fl_law_is_polynomial
  exact (ds_for (sk := (fun (s : Unit) => ([.val (p_prime : Int), .val (p_count : Int), .val (p_thing : (Tup ((Tup Int) × Int))), .any, .any, .any] : List Slot))) (s0 := ()) (di_rangeP  T.range (de_lenUP  T.len (de_var 2 rfl rfl (by first | exact Or.inl rfl | exact Or.inr (Or.inl rfl) | exact Or.inr (Or.inr rfl))))) (dg_name 3 sc_law_is_polynomial.nd rfl (by first | exact Or.inl rfl | exact Or.inr rfl) (by first | exact Or.inl rfl | exact Or.inr rfl)) (.same (.same (.same (.any (.any (.any .nil)))))) (fun i_269 s_268 => (ds_unpack (de_ixTP (de_var 2 rfl rfl (by first | exact Or.inl rfl | exact Or.inr (Or.inl rfl) | exact Or.inr (Or.inr rfl))) (de_var 3 rfl rfl (by first | exact Or.inl rfl | exact Or.inr (Or.inl rfl) | exact Or.inr (Or.inr rfl)))) (dg_pair (dg_name 4 sc_law_is_polynomial.nd rfl (by first | exact Or.inl rfl | exact Or.inr rfl) (by first | exact Or.inl rfl | exact Or.inr rfl)) (dg_name 5 sc_law_is_polynomial.nd rfl (by first | exact Or.inl rfl | exact Or.inr rfl) (by first | exact Or.inl rfl | exact Or.inr rfl))) (fun t_270 => (ds_if (jk := (fun (s : Unit) => ([.val (p_prime : Int), .val (p_count : Int), .val (p_thing : (Tup ((Tup Int) × Int))), .val (i_269 : Int), .val (t_270.1 : (Tup Int)), .val (t_270.2 : Int)] : List Slot))) (mt := (orO (((m_law_is_tuple_point p_prime p_count t_270.1)).bind fun v_271 => some (!v_271)) (((chO (fun a_272 b_273 => some (decide (a_272 < b_273))) (fun a_272 b_273 => some (decide (a_272 < b_273))) (some (0 : Int)) (some t_270.2) (some p_prime))).bind fun v_274 => some (!v_274)))) (DeW.t (dw_or (dt_not (m := (m_law_is_tuple_point p_prime p_count t_270.1)) (dt_of (m := (m_law_is_tuple_point p_prime p_count t_270.1)) (de_call3P (a1 := p_prime) (a2 := p_count) (a3 := t_270.1) (f := fun p : Int × Int × (Tup Int) × Unit => m_law_is_tuple_point p.1 p.2.1 p.2.2.1) ((g_law_is_tuple_point T).df) (de_var 0 rfl rfl (by first | exact Or.inl rfl | exact Or.inr (Or.inl rfl) | exact Or.inr (Or.inr rfl))) (de_var 1 rfl rfl (by first | exact Or.inl rfl | exact Or.inr (Or.inl rfl) | exact Or.inr (Or.inr rfl))) (de_var 4 rfl rfl (by first | exact Or.inl rfl | exact Or.inr (Or.inl rfl) | exact Or.inr (Or.inr rfl)))))) (dw_or1 (dt_not (m := (chO (fun a_272 b_273 => some (decide (a_272 < b_273))) (fun a_272 b_273 => some (decide (a_272 < b_273))) (some (0 : Int)) (some t_270.2) (some p_prime))) (dt_chain (ma := (some (0 : Int))) (mb := (some t_270.2)) (mc := (some p_prime)) (f := (fun a_272 b_273 => some (decide (a_272 < b_273)))) (g := (fun a_272 b_273 => some (decide (a_272 < b_273)))) cmp_lt cmp_lt de_int (de_var 5 rfl rfl (by first | exact Or.inl rfl | exact Or.inr (Or.inl rfl) | exact Or.inr (Or.inr rfl))) (de_var 0 rfl rfl (by first | exact Or.inl rfl | exact Or.inr (Or.inl rfl) | exact Or.inr (Or.inr rfl)))))))) (ds_ret (m := (some false)) de_bl) (ds_end (s := ()) (.same (.same (.same (.same (.same (.same .nil))))))) (fun s_277 => (ds_if (jk := (fun (s : Unit) => ([.val (p_prime : Int), .val (p_count : Int), .val (p_thing : (Tup ((Tup Int) × Int))), .val (i_269 : Int), .val (t_270.1 : (Tup Int)), .val (t_270.2 : Int)] : List Slot))) (mt := (andO (some (decide ((0 : Int) < i_269))) (((((some t_270.1)).bind fun v_278 => ((((atI p_thing.l (i_269 - (1 : Int)))).map (fun z : ((Tup Int) × Int) => z.1))).bind fun v_279 => (ltD v_278 v_279))).bind fun v_280 => some (!v_280)))) (DeW.t (dw_and (dt_c1P (f := fun (x : Int) (y : Int) => some (decide (y < x))) cmp_gt (de_var 3 rfl rfl (by first | exact Or.inl rfl | exact Or.inr (Or.inl rfl) | exact Or.inr (Or.inr rfl))) de_int) (dw_and1 (dt_not (m := (((some t_270.1)).bind fun v_278 => ((((atI p_thing.l (i_269 - (1 : Int)))).map (fun z : ((Tup Int) × Int) => z.1))).bind fun v_279 => (ltD v_278 v_279))) (dt_c1 (ma := (some t_270.1)) (mb := (((atI p_thing.l (i_269 - (1 : Int)))).map (fun z : ((Tup Int) × Int) => z.1))) (f := fun (x : (Tup Int)) (y : (Tup Int)) => (ltD x y)) cmp_ltD (de_var 4 rfl rfl (by first | exact Or.inl rfl | exact Or.inr (Or.inl rfl) | exact Or.inr (Or.inr rfl))) (de_fst (m := (atI p_thing.l (i_269 - (1 : Int)))) (de_ixTP (de_var 2 rfl rfl (by first | exact Or.inl rfl | exact Or.inr (Or.inl rfl) | exact Or.inr (Or.inr rfl))) (de_subP (de_var 3 rfl rfl (by first | exact Or.inl rfl | exact Or.inr (Or.inl rfl) | exact Or.inr (Or.inr rfl))) de_int)))))))) (ds_ret (m := (some false)) de_bl) (ds_end (s := ()) (.same (.same (.same (.same (.same (.same .nil))))))) (fun s_283 => (ds_end (s := ()) (.same (.same (.same (.any (.any (.any .nil)))))))))))))) (fun s_284 => (ds_ret (m := (some true)) de_bl)))
theorem g_law_is_polynomial (T : Tx K mg C fI fdI G fG fdG) : Gd P w K mg base 2 "_law_is_polynomial" (fun p : Int × Int × (Tup ((Tup Int) × Int)) × Unit => m_law_is_polynomial p.1 p.2.1 p.2.2.1) := T.law_is_polynomial.gd sc_law_is_polynomial (by decide) (fun _ => rfl) (fun _ h => nomatch h) (b_law_is_polynomial T)

theorem sc_law_gate_names : FnScope ["cell", "names", "start", "step", "k"] ["cell"] (defScope s_law_gate_names) := ⟨rfl, rfl, rfl, by decide +kernel, rfl, by decide +kernel, by decide +kernel⟩
def fl_law_gate_names (p_cell : Int) : Fl Unit Unit (List Str) := (Fl.bindO (some ([("a" : Str), ("b" : Str), ("not" : Str), ("c1" : Str), ("and" : Str), ("x" : Str), ("or" : Str), ("d" : Str), ("inputs" : Str), ("e" : Str), ("xor" : Str), ("f" : Str), ("outputs" : Str), ("verylongname" : Str), ("g" : Str)] : List Str)) fun names_287 => (Fl.bindO (if len1 (names_287.length + ([("h2" : Str), ("k" : Str), ("m" : Str)] : List Str).length) = true then some (names_287 ++ ([("h2" : Str), ("k" : Str), ("m" : Str)] : List Str)) else none) fun names_288 => (Fl.bindO (modI p_cell (18 : Int)) fun start_289 => (Fl.bindO (((some ([(1 : Int), (5 : Int), (7 : Int), (11 : Int)] : List Int))).bind fun v_294 => ((((((divI p_cell (18 : Int))).bind fun v_291 => some v_291)).bind fun v_292 => ((some (4 : Int))).bind fun v_293 => (modI v_292 v_293))).bind fun v_295 => (atI v_294 v_295)) fun step_290 => (Fl.bindO (((rangeI (18 : Int))).bind fun xs_304 => (capI xs_304).bind fun xs_304 => mapO (fun (i_296 : Int) => (((some names_288)).bind fun v_302 => ((((((((some start_289)).bind fun v_297 => ((mulI step_290 i_296)).bind fun v_298 => some (v_297 + v_298))).bind fun v_299 => some v_299)).bind fun v_300 => ((some (18 : Int))).bind fun v_301 => (modI v_300 v_301))).bind fun v_303 => (atI v_302 v_303))) xs_304) fun r_305 => .rt r_305)))))
def m_law_gate_names (p_cell : Int) : Option (List Str) := (fl_law_gate_names p_cell).fin none
theorem b_law_gate_names (T : Tx K mg C fI fdI G fG fdG) (p : Int × Unit) : DeS (ctOf P w K mg base 0 ["cell", "names", "start", "step", "k"] (defScope s_law_gate_names)) (Pk.sl p ++ List.replicate (5 - (Pk.sl p).length) .any) (defBody s_law_gate_names) (fun _ : Unit => List.replicate 5 .any) (fun _ : Unit => []) (fl_law_gate_names p.1) := by
  obtain ⟨p_cell, _⟩ := p
  unfold fl_law_gate_names
  exact (ds_set (i := 1) (as_e (m := (some ([("a" : Str), ("b" : Str), ("not" : Str), ("c1" : Str), ("and" : Str), ("x" : Str), ("or" : Str), ("d" : Str), ("inputs" : Str), ("e" : Str), ("xor" : Str), ("f" : Str), ("outputs" : Str), ("verylongname" : Str), ("g" : Str)] : List Str))) 1 (DeN.de (dn_lstP (di_consP de_str (di_consP de_str (di_consP de_str (di_consP de_str (di_consP de_str (di_consP de_str (di_consP de_str (di_consP de_str (di_consP de_str (di_consP de_str (di_consP de_str (di_consP de_str (di_consP de_str (di_consP de_str (di_consP de_str di_nil))))))))))))))))) sc_law_gate_names.nd rfl (by first | exact Or.inl rfl | exact Or.inr rfl) (by first | exact Or.inl rfl | exact Or.inr rfl) (fun _ _ => rfl)) (fun names_287 => (ds_set (i := 1) (as_e (m := (if len1 (names_287.length + ([("h2" : Str), ("k" : Str), ("m" : Str)] : List Str).length) = true then some (names_287 ++ ([("h2" : Str), ("k" : Str), ("m" : Str)] : List Str)) else none)) 1 (DeN.de (dn_catL (m := (some names_287)) (n := (some ([("h2" : Str), ("k" : Str), ("m" : Str)] : List Str))) (de_var 1 rfl rfl (by first | exact Or.inl rfl | exact Or.inr (Or.inl rfl) | exact Or.inr (Or.inr rfl))) (DeN.de (dn_lstP (di_consP de_str (di_consP de_str (di_consP de_str di_nil))))))) sc_law_gate_names.nd rfl (by first | exact Or.inl rfl | exact Or.inr rfl) (by first | exact Or.inl rfl | exact Or.inr rfl) (fun _ _ => rfl)) (fun names_288 => (ds_set (i := 2) (as_e (m := (modI p_cell (18 : Int))) 2 (de_modP (de_intIP T.int (de_var 0 rfl rfl (by first | exact Or.inl rfl | exact Or.inr (Or.inl rfl) | exact Or.inr (Or.inr rfl)))) de_int) sc_law_gate_names.nd rfl (by first | exact Or.inl rfl | exact Or.inr rfl) (by first | exact Or.inl rfl | exact Or.inr rfl) (fun _ _ => rfl)) (fun start_289 => (ds_set (i := 3) (as_e (m := (((some ([(1 : Int), (5 : Int), (7 : Int), (11 : Int)] : List Int))).bind fun v_294 => ((((((divI p_cell (18 : Int))).bind fun v_291 => some v_291)).bind fun v_292 => ((some (4 : Int))).bind fun v_293 => (modI v_292 v_293))).bind fun v_295 => (atI v_294 v_295))) 3 (de_ixL (m := (some ([(1 : Int), (5 : Int), (7 : Int), (11 : Int)] : List Int))) (n := (((((divI p_cell (18 : Int))).bind fun v_291 => some v_291)).bind fun v_292 => ((some (4 : Int))).bind fun v_293 => (modI v_292 v_293))) (DeN.l (dn_lstP (di_consP de_int (di_consP de_int (di_consP de_int (di_consP de_int di_nil)))))) (de_mod (ma := (((divI p_cell (18 : Int))).bind fun v_291 => some v_291)) (mb := (some (4 : Int))) (de_intI (m := (divI p_cell (18 : Int))) T.int (de_divP (de_var 0 rfl rfl (by first | exact Or.inl rfl | exact Or.inr (Or.inl rfl) | exact Or.inr (Or.inr rfl))) de_int)) de_int)) sc_law_gate_names.nd rfl (by first | exact Or.inl rfl | exact Or.inr rfl) (by first | exact Or.inl rfl | exact Or.inr rfl) (fun _ _ => rfl)) (fun step_290 => (ds_ret (m := (((rangeI (18 : Int))).bind fun xs_304 => (capI xs_304).bind fun xs_304 => mapO (fun (i_296 : Int) => (((some names_288)).bind fun v_302 => ((((((((some start_289)).bind fun v_297 => ((mulI step_290 i_296)).bind fun v_298 => some (v_297 + v_298))).bind fun v_299 => some v_299)).bind fun v_300 => ((some (18 : Int))).bind fun v_301 => (modI v_300 v_301))).bind fun v_303 => (atI v_302 v_303))) xs_304)) (DeN.de (dn_comp (own := [("k", 4)]) sc_law_gate_names.nd (di_rangeP  T.range de_int) (blkOk_by (by dsimp only [ctOf, Ct.blk]; decide +kernel)) (dg_name 4 sc_law_gate_names.nd rfl (by first | exact Or.inl rfl | exact Or.inr rfl) (by first | exact Or.inl rfl | exact Or.inr rfl)) (by decide) (fun i_296 => (de_ixL (m := (some names_288)) (n := (((((((some start_289)).bind fun v_297 => ((mulI step_290 i_296)).bind fun v_298 => some (v_297 + v_298))).bind fun v_299 => some v_299)).bind fun v_300 => ((some (18 : Int))).bind fun v_301 => (modI v_300 v_301))) (De.l (de_var 1 rfl rfl (by first | exact Or.inl rfl | exact Or.inr (Or.inl rfl) | exact Or.inr (Or.inr rfl)))) (de_mod (ma := (((((some start_289)).bind fun v_297 => ((mulI step_290 i_296)).bind fun v_298 => some (v_297 + v_298))).bind fun v_299 => some v_299)) (mb := (some (18 : Int))) (de_intI (m := (((some start_289)).bind fun v_297 => ((mulI step_290 i_296)).bind fun v_298 => some (v_297 + v_298))) T.int (de_add (ma := (some start_289)) (mb := (mulI step_290 i_296)) (de_var 2 rfl rfl (by first | exact Or.inl rfl | exact Or.inr (Or.inl rfl) | exact Or.inr (Or.inr rfl))) (de_mulP (de_var 3 rfl rfl (by first | exact Or.inl rfl | exact Or.inr (Or.inl rfl) | exact Or.inr (Or.inr rfl))) (de_var 4 rfl rfl (by first | exact Or.inl rfl | exact Or.inr (Or.inl rfl) | exact Or.inr (Or.inr rfl)))))) de_int))))))))))))))
theorem g_law_gate_names (T : Tx K mg C fI fdI G fG fdG) : Gd P w K mg base 1 "_law_gate_names" (fun p : Int × Unit => m_law_gate_names p.1) := T.law_gate_names.gd sc_law_gate_names (by decide) (fun _ => rfl) (fun _ h => nomatch h) (b_law_gate_names T)

theorem sc_law_circuit : FnScope ["cell", "names", "inputs", "digits", "known", "gates", "k", "last", "outputs", "kind", "operands", "digit", "at", "j"] ["cell", "names", "inputs"] (defScope s_law_circuit) := ⟨rfl, rfl, rfl, by decide +kernel, rfl, by decide +kernel, by decide +kernel⟩
def fl_law_circuit (p_cell : Int) (p_names : (List Str)) (p_inputs : Int) : Fl Unit Unit (Tri (List Str) (List (Trp Str Str (Tup Str))) (List Str)) := (Fl.bindO (m_law_digits p_cell (5040 : Int) (64 : Int)) fun digits_306 => (Fl.bindO (some (cutG p_names (none : Option Int) (some p_inputs))) fun known_307 => (Fl.bindO (some ([] : List (Trp Str Str (Tup Str)))) fun gates_308 => (Fl.bindO (((((((atI digits_306 (0 : Int))).bind fun v_309 => some v_309)).bind fun v_310 => ((some (13 : Int))).bind fun v_311 => (modI v_310 v_311))).bind fun v_312 => (rangeI v_312)) fun xs_364 => Fl.bind (Fl.loop (fun (i_314 : Int) (s_313 : ((List Str) × (List (Trp Str Str (Tup Str))))) => ((Fl.bindO (((some ([("not" : Str), ("and" : Str), ("or" : Str), ("xor" : Str)] : List Str))).bind fun v_323 => ((((((((some digits_306)).bind fun v_318 => ((((mulI (4 : Int) i_314)).bind fun v_316 => ((some (1 : Int))).bind fun v_317 => some (v_316 + v_317))).bind fun v_319 => (atI v_318 v_319))).bind fun v_320 => some v_320)).bind fun v_321 => ((some (4 : Int))).bind fun v_322 => (modI v_321 v_322))).bind fun v_324 => (atI v_323 v_324)) fun kind_315 => (Fl.bindO (((rangeI ((1 : Int) + (if (!decide (kind_315 = ("not" : Str))) then (1 : Int) else 0)))).bind fun xs_338 => (capI xs_338).bind fun xs_338 => mapO (fun (i_326 : Int) => (((some s_313.1)).bind fun v_336 => ((((((((some digits_306)).bind fun v_331 => ((((((mulI (4 : Int) i_314)).bind fun v_327 => ((some (2 : Int))).bind fun v_328 => some (v_327 + v_328))).bind fun v_329 => ((some i_326)).bind fun v_330 => some (v_329 + v_330))).bind fun v_332 => (atI v_331 v_332))).bind fun v_333 => some v_333)).bind fun v_334 => ((some (s_313.1.length : Int))).bind fun v_335 => (modI v_334 v_335))).bind fun v_337 => (atI v_336 v_337))) xs_338) fun operands_325 => (Fl.bindO (((atI p_names (p_inputs + i_314))).bind fun v_339 => ((some kind_315)).bind fun v_340 => ((some (⟨operands_325⟩ : (Tup Str)))).bind fun v_341 => some (Trp.mk v_339 v_340 v_341)) fun y_342 => if len1 s_313.2.length = true then (Fl.bindO (atI p_names (p_inputs + i_314)) fun y_344 => if len1 s_313.1.length = true then (.nx ((s_313.1 ++ [y_344]), (s_313.2 ++ [y_342]))) else .err) else .err))) : Fl ((List Str) × (List (Trp Str Str (Tup Str)))) ((List Str) × (List (Trp Str Str (Tup Str)))) (Tri (List Str) (List (Trp Str Str (Tup Str))) (List Str)))) xs_364 (known_307, gates_308) : Fl ((List Str) × (List (Trp Str Str (Tup Str)))) Unit (Tri (List Str) (List (Trp Str Str (Tup Str))) (List Str))) fun s_346 => (Fl.bindO (((((some digits_306)).bind fun v_353 => ((some (some (56 : Int)))).bind fun v_354 => ((((((some (57 : Int))).bind fun v_351 => ((((((atI digits_306 (55 : Int))).bind fun v_348 => some v_348)).bind fun v_349 => ((some (4 : Int))).bind fun v_350 => (modI v_349 v_350))).bind fun v_352 => some (v_351 + v_352))).map some)).bind fun v_355 => some (cutG v_353 v_354 v_355))).bind fun xs_359 => (capI xs_359).bind fun xs_359 => mapO (fun (i_356 : Int) => (((some ((s_346.1.length : Int) - (1 : Int)))).bind fun v_357 => ((modI i_356 (if (s_346.1.length : Int) < (3 : Int) then (s_346.1.length : Int) else (3 : Int)))).bind fun v_358 => some (v_357 - v_358))) xs_359) fun last_347 => (Fl.bindO (((some last_347)).bind fun xs_362 => (capI xs_362).bind fun xs_362 => mapO (fun (i_361 : Int) => (atI s_346.1 i_361)) xs_362) fun outputs_360 => (Fl.bindO (some (Tri.mk (cutG p_names (none : Option Int) (some p_inputs)) s_346.2 outputs_360)) fun r_363 => .rt r_363)))))))
def m_law_circuit (p_cell : Int) (p_names : (List Str)) (p_inputs : Int) : Option (Tri (List Str) (List (Trp Str Str (Tup Str))) (List Str)) := (fl_law_circuit p_cell p_names p_inputs).fin none
theorem b_law_circuit (T : Tx K mg C fI fdI G fG fdG) (p : Int × (List Str) × Int × Unit) : DeSN (ctOf P w K mg base 1 ["cell", "names", "inputs", "digits", "known", "gates", "k", "last", "outputs", "kind", "operands", "digit", "at", "j"] (defScope s_law_circuit)) (Pk.sl p ++ List.replicate (14 - (Pk.sl p).length) .any) (defBody s_law_circuit) (fun _ : Unit => List.replicate 14 .any) (fun _ : Unit => []) (fl_law_circuit p.1 p.2.1 p.2.2.1) := by
  obtain ⟨p_cell, p_names, p_inputs, _⟩ := p
  unfold fl_law_circuit
  exact (dsn_set (i := 3) (as_e (m := (m_law_digits p_cell (5040 : Int) (64 : Int))) 3 (de_call3P (a1 := p_cell) (a2 := (5040 : Int)) (a3 := (64 : Int)) (f := fun p : Int × Int × Int × Unit => m_law_digits p.1 p.2.1 p.2.2.1) ((g_law_digits T).df) (de_var 0 rfl rfl (by first | exact Or.inl rfl | exact Or.inr (Or.inl rfl) | exact Or.inr (Or.inr rfl))) de_int de_int) sc_law_circuit.nd rfl (by first | exact Or.inl rfl | exact Or.inr rfl) (by first | exact Or.inl rfl | exact Or.inr rfl) (fun _ _ => rfl)) (fun digits_306 => (dsn_own (i := 4) (as_n 4 (dn_list (m := (some (cutG p_names (none : Option Int) (some p_inputs)))) T.list (DeN.l (dn_slLP (De.l (de_var 1 rfl rfl (by first | exact Or.inl rfl | exact Or.inr (Or.inl rfl) | exact Or.inr (Or.inr rfl)))) do_none (do_someP (de_var 2 rfl rfl (by first | exact Or.inl rfl | exact Or.inr (Or.inl rfl) | exact Or.inr (Or.inr rfl))))))) sc_law_circuit.nd rfl (by first | exact Or.inl rfl | exact Or.inr rfl) (by first | exact Or.inl rfl | exact Or.inr rfl) (fun _ _ => rfl)) (fun known_307 => (dsn_own (i := 5) (as_n 5 (dn_lstP di_nil) sc_law_circuit.nd rfl (by first | exact Or.inl rfl | exact Or.inr rfl) (by first | exact Or.inl rfl | exact Or.inr rfl) (fun _ _ => rfl)) (fun gates_308 => (dsn_for (sk := (fun (s : ((List Str) × (List (Trp Str Str (Tup Str))))) => ([.val (p_cell : Int), .val (p_names : (List Str)), .val (p_inputs : Int), .val (digits_306 : (List Int)), .own (s.1 : (List Str)), .own (s.2 : (List (Trp Str Str (Tup Str)))), .any, .any, .any, .any, .any, .any, .any, .any] : List Slot))) (s0 := (known_307, gates_308)) (di_range (m := (((((atI digits_306 (0 : Int))).bind fun v_309 => some v_309)).bind fun v_310 => ((some (13 : Int))).bind fun v_311 => (modI v_310 v_311))) T.range (de_mod (ma := (((atI digits_306 (0 : Int))).bind fun v_309 => some v_309)) (mb := (some (13 : Int))) (de_intI (m := (atI digits_306 (0 : Int))) T.int (de_ixLP (De.l (de_var 3 rfl rfl (by first | exact Or.inl rfl | exact Or.inr (Or.inl rfl) | exact Or.inr (Or.inr rfl)))) de_int)) de_int)) (dg_name 6 sc_law_circuit.nd rfl (by first | exact Or.inl rfl | exact Or.inr rfl) (by first | exact Or.inl rfl | exact Or.inr rfl)) (.same (.same (.same (.same (.same (.same (.any (.any (.any (.any (.any (.any (.any (.any .nil)))))))))))))) (fun i_314 s_313 => (dsn_set (i := 9) (as_e (m := (((some ([("not" : Str), ("and" : Str), ("or" : Str), ("xor" : Str)] : List Str))).bind fun v_323 => ((((((((some digits_306)).bind fun v_318 => ((((mulI (4 : Int) i_314)).bind fun v_316 => ((some (1 : Int))).bind fun v_317 => some (v_316 + v_317))).bind fun v_319 => (atI v_318 v_319))).bind fun v_320 => some v_320)).bind fun v_321 => ((some (4 : Int))).bind fun v_322 => (modI v_321 v_322))).bind fun v_324 => (atI v_323 v_324))) 9 (de_ixL (m := (some ([("not" : Str), ("and" : Str), ("or" : Str), ("xor" : Str)] : List Str))) (n := (((((((some digits_306)).bind fun v_318 => ((((mulI (4 : Int) i_314)).bind fun v_316 => ((some (1 : Int))).bind fun v_317 => some (v_316 + v_317))).bind fun v_319 => (atI v_318 v_319))).bind fun v_320 => some v_320)).bind fun v_321 => ((some (4 : Int))).bind fun v_322 => (modI v_321 v_322))) (DeN.l (dn_lstP (di_consP de_str (di_consP de_str (di_consP de_str (di_consP de_str di_nil)))))) (de_mod (ma := (((((some digits_306)).bind fun v_318 => ((((mulI (4 : Int) i_314)).bind fun v_316 => ((some (1 : Int))).bind fun v_317 => some (v_316 + v_317))).bind fun v_319 => (atI v_318 v_319))).bind fun v_320 => some v_320)) (mb := (some (4 : Int))) (de_intI (m := (((some digits_306)).bind fun v_318 => ((((mulI (4 : Int) i_314)).bind fun v_316 => ((some (1 : Int))).bind fun v_317 => some (v_316 + v_317))).bind fun v_319 => (atI v_318 v_319))) T.int (de_ixL (m := (some digits_306)) (n := (((mulI (4 : Int) i_314)).bind fun v_316 => ((some (1 : Int))).bind fun v_317 => some (v_316 + v_317))) (De.l (de_var 3 rfl rfl (by first | exact Or.inl rfl | exact Or.inr (Or.inl rfl) | exact Or.inr (Or.inr rfl)))) (de_add (ma := (mulI (4 : Int) i_314)) (mb := (some (1 : Int))) (de_mulP de_int (de_var 6 rfl rfl (by first | exact Or.inl rfl | exact Or.inr (Or.inl rfl) | exact Or.inr (Or.inr rfl)))) de_int))) de_int)) sc_law_circuit.nd rfl (by first | exact Or.inl rfl | exact Or.inr rfl) (by first | exact Or.inl rfl | exact Or.inr rfl) (fun _ _ => rfl)) (fun kind_315 => (dsn_set (i := 10) (AsN.toE (by first | exact (as_comp (own := [("j", 13)]) 10 sc_law_circuit.nd rfl rfl rfl (by decide +kernel) (by decide +kernel) (di_rangeP  T.range (de_addP de_int (de_intB (m := (some (!decide (kind_315 = ("not" : Str))))) T.int (de_cP (f := fun (x : Str) (y : Str) => some (!decide (x = y))) cmp_neS (de_var 9 rfl rfl (by first | exact Or.inl rfl | exact Or.inr (Or.inl rfl) | exact Or.inr (Or.inr rfl))) de_str)))) (blkOk_by (by dsimp only [ctOf, Ct.blk]; decide +kernel)) (dg_name 13 sc_law_circuit.nd rfl (by first | exact Or.inl rfl | exact Or.inr rfl) (by first | exact Or.inl rfl | exact Or.inr rfl)) (by decide) (fun i_326 => (de_ixL (m := (some s_313.1)) (n := (((((((some digits_306)).bind fun v_331 => ((((((mulI (4 : Int) i_314)).bind fun v_327 => ((some (2 : Int))).bind fun v_328 => some (v_327 + v_328))).bind fun v_329 => ((some i_326)).bind fun v_330 => some (v_329 + v_330))).bind fun v_332 => (atI v_331 v_332))).bind fun v_333 => some v_333)).bind fun v_334 => ((some (s_313.1.length : Int))).bind fun v_335 => (modI v_334 v_335))) (dl_own 4 rfl rfl (by first | exact Or.inl rfl | exact Or.inr (Or.inl rfl) | exact Or.inr (Or.inr rfl))) (de_mod (ma := (((((some digits_306)).bind fun v_331 => ((((((mulI (4 : Int) i_314)).bind fun v_327 => ((some (2 : Int))).bind fun v_328 => some (v_327 + v_328))).bind fun v_329 => ((some i_326)).bind fun v_330 => some (v_329 + v_330))).bind fun v_332 => (atI v_331 v_332))).bind fun v_333 => some v_333)) (mb := (some (s_313.1.length : Int))) (de_intI (m := (((some digits_306)).bind fun v_331 => ((((((mulI (4 : Int) i_314)).bind fun v_327 => ((some (2 : Int))).bind fun v_328 => some (v_327 + v_328))).bind fun v_329 => ((some i_326)).bind fun v_330 => some (v_329 + v_330))).bind fun v_332 => (atI v_331 v_332))) T.int (de_ixL (m := (some digits_306)) (n := (((((mulI (4 : Int) i_314)).bind fun v_327 => ((some (2 : Int))).bind fun v_328 => some (v_327 + v_328))).bind fun v_329 => ((some i_326)).bind fun v_330 => some (v_329 + v_330))) (De.l (de_var 3 rfl rfl (by first | exact Or.inl rfl | exact Or.inr (Or.inl rfl) | exact Or.inr (Or.inr rfl)))) (de_add (ma := (((mulI (4 : Int) i_314)).bind fun v_327 => ((some (2 : Int))).bind fun v_328 => some (v_327 + v_328))) (mb := (some i_326)) (de_add (ma := (mulI (4 : Int) i_314)) (mb := (some (2 : Int))) (de_mulP de_int (de_var 6 rfl rfl (by first | exact Or.inl rfl | exact Or.inr (Or.inl rfl) | exact Or.inr (Or.inr rfl)))) de_int) (de_var 13 rfl rfl (by first | exact Or.inl rfl | exact Or.inr (Or.inl rfl) | exact Or.inr (Or.inr rfl)))))) (de_lenLP  T.len (dl_own 4 rfl rfl (by first | exact Or.inl rfl | exact Or.inr (Or.inl rfl) | exact Or.inr (Or.inr rfl)))))))) | exact (as_n 10 (dn_comp (own := [("j", 13)]) sc_law_circuit.nd (di_rangeP  T.range (de_addP de_int (de_intB (m := (some (!decide (kind_315 = ("not" : Str))))) T.int (de_cP (f := fun (x : Str) (y : Str) => some (!decide (x = y))) cmp_neS (de_var 9 rfl rfl (by first | exact Or.inl rfl | exact Or.inr (Or.inl rfl) | exact Or.inr (Or.inr rfl))) de_str)))) (blkOk_by (by dsimp only [ctOf, Ct.blk]; decide +kernel)) (dg_name 13 sc_law_circuit.nd rfl (by first | exact Or.inl rfl | exact Or.inr rfl) (by first | exact Or.inl rfl | exact Or.inr rfl)) (by decide) (fun i_326 => (de_ixL (m := (some s_313.1)) (n := (((((((some digits_306)).bind fun v_331 => ((((((mulI (4 : Int) i_314)).bind fun v_327 => ((some (2 : Int))).bind fun v_328 => some (v_327 + v_328))).bind fun v_329 => ((some i_326)).bind fun v_330 => some (v_329 + v_330))).bind fun v_332 => (atI v_331 v_332))).bind fun v_333 => some v_333)).bind fun v_334 => ((some (s_313.1.length : Int))).bind fun v_335 => (modI v_334 v_335))) (dl_own 4 rfl rfl (by first | exact Or.inl rfl | exact Or.inr (Or.inl rfl) | exact Or.inr (Or.inr rfl))) (de_mod (ma := (((((some digits_306)).bind fun v_331 => ((((((mulI (4 : Int) i_314)).bind fun v_327 => ((some (2 : Int))).bind fun v_328 => some (v_327 + v_328))).bind fun v_329 => ((some i_326)).bind fun v_330 => some (v_329 + v_330))).bind fun v_332 => (atI v_331 v_332))).bind fun v_333 => some v_333)) (mb := (some (s_313.1.length : Int))) (de_intI (m := (((some digits_306)).bind fun v_331 => ((((((mulI (4 : Int) i_314)).bind fun v_327 => ((some (2 : Int))).bind fun v_328 => some (v_327 + v_328))).bind fun v_329 => ((some i_326)).bind fun v_330 => some (v_329 + v_330))).bind fun v_332 => (atI v_331 v_332))) T.int (de_ixL (m := (some digits_306)) (n := (((((mulI (4 : Int) i_314)).bind fun v_327 => ((some (2 : Int))).bind fun v_328 => some (v_327 + v_328))).bind fun v_329 => ((some i_326)).bind fun v_330 => some (v_329 + v_330))) (De.l (de_var 3 rfl rfl (by first | exact Or.inl rfl | exact Or.inr (Or.inl rfl) | exact Or.inr (Or.inr rfl)))) (de_add (ma := (((mulI (4 : Int) i_314)).bind fun v_327 => ((some (2 : Int))).bind fun v_328 => some (v_327 + v_328))) (mb := (some i_326)) (de_add (ma := (mulI (4 : Int) i_314)) (mb := (some (2 : Int))) (de_mulP de_int (de_var 6 rfl rfl (by first | exact Or.inl rfl | exact Or.inr (Or.inl rfl) | exact Or.inr (Or.inr rfl)))) de_int) (de_var 13 rfl rfl (by first | exact Or.inl rfl | exact Or.inr (Or.inl rfl) | exact Or.inr (Or.inr rfl)))))) (de_lenLP  T.len (dl_own 4 rfl rfl (by first | exact Or.inl rfl | exact Or.inr (Or.inl rfl) | exact Or.inr (Or.inr rfl)))))))) sc_law_circuit.nd rfl (by first | exact Or.inl rfl | exact Or.inr rfl) (by first | exact Or.inl rfl | exact Or.inr rfl) (sw_cell rfl)))) (fun operands_325 => (dsn_append 5 rfl rfl (by first | exact Or.inl rfl | exact Or.inr (Or.inl rfl) | exact Or.inr (Or.inr rfl)) (de_trp (m1 := (atI p_names (p_inputs + i_314))) (m2 := (some kind_315)) (m3 := (some (⟨operands_325⟩ : (Tup Str)))) (de_ixLP (De.l (de_var 1 rfl rfl (by first | exact Or.inl rfl | exact Or.inr (Or.inl rfl) | exact Or.inr (Or.inr rfl)))) (de_addP (de_var 2 rfl rfl (by first | exact Or.inl rfl | exact Or.inr (Or.inl rfl) | exact Or.inr (Or.inr rfl))) (de_var 6 rfl rfl (by first | exact Or.inl rfl | exact Or.inr (Or.inl rfl) | exact Or.inr (Or.inr rfl))))) (de_var 9 rfl rfl (by first | exact Or.inl rfl | exact Or.inr (Or.inl rfl) | exact Or.inr (Or.inr rfl))) (de_tupOf (m := (some operands_325)) T.tuple (De.l (de_var 10 rfl rfl (by first | exact Or.inl rfl | exact Or.inr (Or.inl rfl) | exact Or.inr (Or.inr rfl)))))) (fun y_342 => (dsn_append 4 rfl rfl (by first | exact Or.inl rfl | exact Or.inr (Or.inl rfl) | exact Or.inr (Or.inr rfl)) (de_ixLP (De.l (de_var 1 rfl rfl (by first | exact Or.inl rfl | exact Or.inr (Or.inl rfl) | exact Or.inr (Or.inr rfl)))) (de_addP (de_var 2 rfl rfl (by first | exact Or.inl rfl | exact Or.inr (Or.inl rfl) | exact Or.inr (Or.inr rfl))) (de_var 6 rfl rfl (by first | exact Or.inl rfl | exact Or.inr (Or.inl rfl) | exact Or.inr (Or.inr rfl))))) (fun y_344 => (dsn_end (s := ((s_313.1 ++ [y_344]), (s_313.2 ++ [y_342]))) (.same (.same (.same (.same (.same (.same (.any (.any (.any (.any (.any (.any (.any (.any .nil)))))))))))))))) (k := fun known_345 => (.nx (known_345, (s_313.2 ++ [y_342])))))) (k := fun gates_343 => (Fl.bindO (atI p_names (p_inputs + i_314)) fun y_344 => if len1 s_313.1.length = true then (.nx ((s_313.1 ++ [y_344]), gates_343)) else .err)))))))) (fun s_346 => (dsn_set (i := 7) (AsN.toE (by first | exact (as_comp (own := [("digit", 11)]) 7 sc_law_circuit.nd rfl rfl rfl (by decide +kernel) (by decide +kernel) (di_list (m := (((some digits_306)).bind fun v_353 => ((some (some (56 : Int)))).bind fun v_354 => ((((((some (57 : Int))).bind fun v_351 => ((((((atI digits_306 (55 : Int))).bind fun v_348 => some v_348)).bind fun v_349 => ((some (4 : Int))).bind fun v_350 => (modI v_349 v_350))).bind fun v_352 => some (v_351 + v_352))).map some)).bind fun v_355 => some (cutG v_353 v_354 v_355))) (DeN.de (dn_slL (m := (some digits_306)) (ml := (some (some (56 : Int)))) (mh := (((((some (57 : Int))).bind fun v_351 => ((((((atI digits_306 (55 : Int))).bind fun v_348 => some v_348)).bind fun v_349 => ((some (4 : Int))).bind fun v_350 => (modI v_349 v_350))).bind fun v_352 => some (v_351 + v_352))).map some)) (De.l (de_var 3 rfl rfl (by first | exact Or.inl rfl | exact Or.inr (Or.inl rfl) | exact Or.inr (Or.inr rfl)))) (do_someP de_int) (do_some (m := (((some (57 : Int))).bind fun v_351 => ((((((atI digits_306 (55 : Int))).bind fun v_348 => some v_348)).bind fun v_349 => ((some (4 : Int))).bind fun v_350 => (modI v_349 v_350))).bind fun v_352 => some (v_351 + v_352))) (de_add (ma := (some (57 : Int))) (mb := (((((atI digits_306 (55 : Int))).bind fun v_348 => some v_348)).bind fun v_349 => ((some (4 : Int))).bind fun v_350 => (modI v_349 v_350))) de_int (de_mod (ma := (((atI digits_306 (55 : Int))).bind fun v_348 => some v_348)) (mb := (some (4 : Int))) (de_intI (m := (atI digits_306 (55 : Int))) T.int (de_ixLP (De.l (de_var 3 rfl rfl (by first | exact Or.inl rfl | exact Or.inr (Or.inl rfl) | exact Or.inr (Or.inr rfl)))) de_int)) de_int)))))) (blkOk_by (by dsimp only [ctOf, Ct.blk]; decide +kernel)) (dg_name 11 sc_law_circuit.nd rfl (by first | exact Or.inl rfl | exact Or.inr rfl) (by first | exact Or.inl rfl | exact Or.inr rfl)) (by decide) (fun i_356 => (de_sub (ma := (some ((s_346.1.length : Int) - (1 : Int)))) (mb := (modI i_356 (if (s_346.1.length : Int) < (3 : Int) then (s_346.1.length : Int) else (3 : Int)))) (de_subP (de_lenLP  T.len (dl_own 4 rfl rfl (by first | exact Or.inl rfl | exact Or.inr (Or.inl rfl) | exact Or.inr (Or.inr rfl)))) de_int) (de_modP (de_intIP T.int (de_var 11 rfl rfl (by first | exact Or.inl rfl | exact Or.inr (Or.inl rfl) | exact Or.inr (Or.inr rfl)))) (de_min2 (m := (some (3 : Int))) (n := (some (s_346.1.length : Int))) T.min de_int (de_lenLP  T.len (dl_own 4 rfl rfl (by first | exact Or.inl rfl | exact Or.inr (Or.inl rfl) | exact Or.inr (Or.inr rfl))))))))) | exact (as_n 7 (dn_comp (own := [("digit", 11)]) sc_law_circuit.nd (di_list (m := (((some digits_306)).bind fun v_353 => ((some (some (56 : Int)))).bind fun v_354 => ((((((some (57 : Int))).bind fun v_351 => ((((((atI digits_306 (55 : Int))).bind fun v_348 => some v_348)).bind fun v_349 => ((some (4 : Int))).bind fun v_350 => (modI v_349 v_350))).bind fun v_352 => some (v_351 + v_352))).map some)).bind fun v_355 => some (cutG v_353 v_354 v_355))) (DeN.de (dn_slL (m := (some digits_306)) (ml := (some (some (56 : Int)))) (mh := (((((some (57 : Int))).bind fun v_351 => ((((((atI digits_306 (55 : Int))).bind fun v_348 => some v_348)).bind fun v_349 => ((some (4 : Int))).bind fun v_350 => (modI v_349 v_350))).bind fun v_352 => some (v_351 + v_352))).map some)) (De.l (de_var 3 rfl rfl (by first | exact Or.inl rfl | exact Or.inr (Or.inl rfl) | exact Or.inr (Or.inr rfl)))) (do_someP de_int) (do_some (m := (((some (57 : Int))).bind fun v_351 => ((((((atI digits_306 (55 : Int))).bind fun v_348 => some v_348)).bind fun v_349 => ((some (4 : Int))).bind fun v_350 => (modI v_349 v_350))).bind fun v_352 => some (v_351 + v_352))) (de_add (ma := (some (57 : Int))) (mb := (((((atI digits_306 (55 : Int))).bind fun v_348 => some v_348)).bind fun v_349 => ((some (4 : Int))).bind fun v_350 => (modI v_349 v_350))) de_int (de_mod (ma := (((atI digits_306 (55 : Int))).bind fun v_348 => some v_348)) (mb := (some (4 : Int))) (de_intI (m := (atI digits_306 (55 : Int))) T.int (de_ixLP (De.l (de_var 3 rfl rfl (by first | exact Or.inl rfl | exact Or.inr (Or.inl rfl) | exact Or.inr (Or.inr rfl)))) de_int)) de_int)))))) (blkOk_by (by dsimp only [ctOf, Ct.blk]; decide +kernel)) (dg_name 11 sc_law_circuit.nd rfl (by first | exact Or.inl rfl | exact Or.inr rfl) (by first | exact Or.inl rfl | exact Or.inr rfl)) (by decide) (fun i_356 => (de_sub (ma := (some ((s_346.1.length : Int) - (1 : Int)))) (mb := (modI i_356 (if (s_346.1.length : Int) < (3 : Int) then (s_346.1.length : Int) else (3 : Int)))) (de_subP (de_lenLP  T.len (dl_own 4 rfl rfl (by first | exact Or.inl rfl | exact Or.inr (Or.inl rfl) | exact Or.inr (Or.inr rfl)))) de_int) (de_modP (de_intIP T.int (de_var 11 rfl rfl (by first | exact Or.inl rfl | exact Or.inr (Or.inl rfl) | exact Or.inr (Or.inr rfl)))) (de_min2 (m := (some (3 : Int))) (n := (some (s_346.1.length : Int))) T.min de_int (de_lenLP  T.len (dl_own 4 rfl rfl (by first | exact Or.inl rfl | exact Or.inr (Or.inl rfl) | exact Or.inr (Or.inr rfl))))))))) sc_law_circuit.nd rfl (by first | exact Or.inl rfl | exact Or.inr rfl) (by first | exact Or.inl rfl | exact Or.inr rfl) (sw_cell rfl)))) (fun last_347 => (dsn_set (i := 8) (AsN.toE (by first | exact (as_comp (own := [("at", 12)]) 8 sc_law_circuit.nd rfl rfl rfl (by decide +kernel) (by decide +kernel) (di_list (m := (some last_347)) (de_var 7 rfl rfl (by first | exact Or.inl rfl | exact Or.inr (Or.inl rfl) | exact Or.inr (Or.inr rfl)))) (blkOk_by (by dsimp only [ctOf, Ct.blk]; decide +kernel)) (dg_name 12 sc_law_circuit.nd rfl (by first | exact Or.inl rfl | exact Or.inr rfl) (by first | exact Or.inl rfl | exact Or.inr rfl)) (by decide) (fun i_361 => (de_ixLP (dl_own 4 rfl rfl (by first | exact Or.inl rfl | exact Or.inr (Or.inl rfl) | exact Or.inr (Or.inr rfl))) (de_var 12 rfl rfl (by first | exact Or.inl rfl | exact Or.inr (Or.inl rfl) | exact Or.inr (Or.inr rfl)))))) | exact (as_n 8 (dn_comp (own := [("at", 12)]) sc_law_circuit.nd (di_list (m := (some last_347)) (de_var 7 rfl rfl (by first | exact Or.inl rfl | exact Or.inr (Or.inl rfl) | exact Or.inr (Or.inr rfl)))) (blkOk_by (by dsimp only [ctOf, Ct.blk]; decide +kernel)) (dg_name 12 sc_law_circuit.nd rfl (by first | exact Or.inl rfl | exact Or.inr rfl) (by first | exact Or.inl rfl | exact Or.inr rfl)) (by decide) (fun i_361 => (de_ixLP (dl_own 4 rfl rfl (by first | exact Or.inl rfl | exact Or.inr (Or.inl rfl) | exact Or.inr (Or.inr rfl))) (de_var 12 rfl rfl (by first | exact Or.inl rfl | exact Or.inr (Or.inl rfl) | exact Or.inr (Or.inr rfl)))))) sc_law_circuit.nd rfl (by first | exact Or.inl rfl | exact Or.inr rfl) (by first | exact Or.inl rfl | exact Or.inr rfl) (sw_cell rfl)))) (fun outputs_360 => (dsn_freeze 5 rfl (dsn_ret (m := (some (Tri.mk (cutG p_names (none : Option Int) (some p_inputs)) s_346.2 outputs_360))) (dn_tri (m1 := (some (cutG p_names (none : Option Int) (some p_inputs)))) (m2 := (some s_346.2)) (m3 := (some outputs_360)) (by exact (DeN.de (dn_slLP (De.l (de_var 1 rfl rfl (by first | exact Or.inl rfl | exact Or.inr (Or.inl rfl) | exact Or.inr (Or.inr rfl)))) do_none (do_someP (de_var 2 rfl rfl (by first | exact Or.inl rfl | exact Or.inr (Or.inl rfl) | exact Or.inr (Or.inr rfl))))))) (by exact (de_var 5 rfl rfl (by first | exact Or.inl rfl | exact Or.inr (Or.inl rfl) | exact Or.inr (Or.inr rfl)))) (by exact (de_var 8 rfl rfl (by first | exact Or.inl rfl | exact Or.inr (Or.inl rfl) | exact Or.inr (Or.inr rfl)))))))))))))))))))
theorem g_law_circuit (T : Tx K mg C fI fdI G fG fdG) : GdN P w K mg base 2 "_law_circuit" (fun p : Int × (List Str) × Int × Unit => m_law_circuit p.1 p.2.1 p.2.2.1) := T.law_circuit.gdN sc_law_circuit (by decide) (fun _ => rfl) (b_law_circuit T)

theorem sc_law_outputs : FnScope ["circuit", "point", "known", "k", "name", "kind", "operands", "numbers", "operand"] ["circuit", "point"] (defScope s_law_outputs) := ⟨rfl, rfl, rfl, by decide +kernel, rfl, by decide +kernel, by decide +kernel⟩
def fl_law_outputs (p_circuit : (Tri (List Str) (List (Trp Str Str (Tup Str))) (List Str))) (p_point : (Tup Int)) : Fl Unit Unit (List Int) := (Fl.bindO (rangeI (p_point.l.length : Int)) fun xs_402 => Fl.bind (Fl.loop (fun (i_367 : Int) (s_366 : ((DctS Int))) => ((Fl.bindO (atI p_point.l i_367) fun y_368 => Fl.bindO (atI p_circuit.x1 i_367) fun z_369 => if len1 s_366.l.length = true then (fun known_370 => (.nx known_370)) (s_366.put z_369 y_368) else .err) : Fl ((DctS Int)) ((DctS Int)) (List Int))) xs_402 (⟨[]⟩ : (DctS Int)) : Fl ((DctS Int)) Unit (List Int)) fun s_371 => (Fl.bindO (some p_circuit.x2) fun xs_401 => Fl.bind (Fl.loop (fun (i_373 : (Trp Str Str (Tup Str))) (s_372 : ((DctS Int))) => ((Fl.bindO (((some i_373.x3.l)).bind fun xs_376 => (capI xs_376).bind fun xs_376 => mapO (fun (i_375 : Str) => (s_372.get i_375)) xs_376) fun numbers_374 => (Fl.bindO (some (decide (i_373.x2 = ("not" : Str)))) fun v_395 => Fl.bind (if v_395 = true then ((Fl.bindO (((some (1 : Int))).bind fun v_377 => ((atI numbers_374 (0 : Int))).bind fun v_378 => some (v_377 - v_378)) fun y_379 => Fl.bindO (some i_373.x1) fun z_380 => if len1 s_372.l.length = true then (fun known_381 => (.nx known_381)) (s_372.put z_380 y_379) else .err) : Fl ((DctS Int)) ((DctS Int)) (List Int)) else (Fl.bindO (some (decide (i_373.x2 = ("and" : Str)))) fun v_393 => Fl.bind (if v_393 = true then ((Fl.bindO (some (if (decide (numbers_374.sum = (2 : Int))) then (1 : Int) else 0)) fun y_382 => Fl.bindO (some i_373.x1) fun z_383 => if len1 s_372.l.length = true then (fun known_384 => (.nx known_384)) (s_372.put z_383 y_382) else .err) : Fl ((DctS Int)) ((DctS Int)) (List Int)) else (Fl.bindO (some (decide (i_373.x2 = ("or" : Str)))) fun v_391 => Fl.bind (if v_391 = true then ((Fl.bindO (some (if (decide ((0 : Int) < numbers_374.sum)) then (1 : Int) else 0)) fun y_385 => Fl.bindO (some i_373.x1) fun z_386 => if len1 s_372.l.length = true then (fun known_387 => (.nx known_387)) (s_372.put z_386 y_385) else .err) : Fl ((DctS Int)) ((DctS Int)) (List Int)) else (Fl.bindO (some (if (decide (numbers_374.sum = (1 : Int))) then (1 : Int) else 0)) fun y_388 => Fl.bindO (some i_373.x1) fun z_389 => if len1 s_372.l.length = true then (fun known_390 => (.nx known_390)) (s_372.put z_389 y_388) else .err)) fun s_392 => (.nx s_392))) fun s_394 => (.nx s_394))) fun s_396 => (.nx s_396))) : Fl ((DctS Int)) ((DctS Int)) (List Int))) xs_401 s_371 : Fl ((DctS Int)) Unit (List Int)) fun s_397 => (Fl.bindO (((some p_circuit.x3)).bind fun xs_399 => (capI xs_399).bind fun xs_399 => mapO (fun (i_398 : Str) => (s_397.get i_398)) xs_399) fun r_400 => .rt r_400)))
def m_law_outputs (p_circuit : (Tri (List Str) (List (Trp Str Str (Tup Str))) (List Str))) (p_point : (Tup Int)) : Option (List Int) := (fl_law_outputs p_circuit p_point).fin none
theorem b_law_outputs (T : Tx K mg C fI fdI G fG fdG) (p : (Tri (List Str) (List (Trp Str Str (Tup Str))) (List Str)) × (Tup Int) × Unit) : DeS (ctOf P w K mg base 0 ["circuit", "point", "known", "k", "name", "kind", "operands", "numbers", "operand"] (defScope s_law_outputs)) (Pk.sl p ++ List.replicate (9 - (Pk.sl p).length) .any) (defBody s_law_outputs) (fun _ : Unit => List.replicate 9 .any) (fun _ : Unit => []) (fl_law_outputs p.1 p.2.1) := by
  obtain ⟨p_circuit, p_point, _⟩ := p
  unfold fl_law_outputs
  exact (ds_newS (α := Int) 2 sc_law_outputs.nd rfl (by first | exact Or.inl rfl | exact Or.inr rfl) (by first | exact Or.inl rfl | exact Or.inr rfl) (ds_for (sk := (fun (s : ((DctS Int))) => ([.val (p_circuit : (Tri (List Str) (List (Trp Str Str (Tup Str))) (List Str))), .val (p_point : (Tup Int)), .dcs (s : (DctS Int)), .any, .any, .any, .any, .any, .any] : List Slot))) (s0 := (⟨[]⟩ : (DctS Int))) (di_rangeP  T.range (de_lenUP  T.len (de_var 1 rfl rfl (by first | exact Or.inl rfl | exact Or.inr (Or.inl rfl) | exact Or.inr (Or.inr rfl))))) (dg_name 3 sc_law_outputs.nd rfl (by first | exact Or.inl rfl | exact Or.inr rfl) (by first | exact Or.inl rfl | exact Or.inr rfl)) (.same (.same (.same (.any (.any (.any (.any (.any (.any .nil))))))))) (fun i_367 s_366 => (ds_putS 2 (m := (atI p_point.l i_367)) (n := (atI p_circuit.x1 i_367)) rfl rfl (by first | exact Or.inl rfl | exact Or.inr (Or.inl rfl) | exact Or.inr (Or.inr rfl)) (de_ixTP (de_var 1 rfl rfl (by first | exact Or.inl rfl | exact Or.inr (Or.inl rfl) | exact Or.inr (Or.inr rfl))) (de_var 3 rfl rfl (by first | exact Or.inl rfl | exact Or.inr (Or.inl rfl) | exact Or.inr (Or.inr rfl)))) (de_ixLP (De.l (de_tri1 (m := (some p_circuit)) (de_var 0 rfl rfl (by first | exact Or.inl rfl | exact Or.inr (Or.inl rfl) | exact Or.inr (Or.inr rfl))))) (de_var 3 rfl rfl (by first | exact Or.inl rfl | exact Or.inr (Or.inl rfl) | exact Or.inr (Or.inr rfl)))) (fun known_370 => (ds_end (s := known_370) (.same (.same (.same (.any (.any (.any (.any (.any (.any .nil))))))))))) (k := fun known_370 => (.nx known_370)))) (fun s_371 => (ds_for (sk := (fun (s : ((DctS Int))) => ([.val (p_circuit : (Tri (List Str) (List (Trp Str Str (Tup Str))) (List Str))), .val (p_point : (Tup Int)), .dcs (s : (DctS Int)), .any, .any, .any, .any, .any, .any] : List Slot))) (s0 := s_371) (di_list (m := (some p_circuit.x2)) (de_tri2 (m := (some p_circuit)) (de_var 0 rfl rfl (by first | exact Or.inl rfl | exact Or.inr (Or.inl rfl) | exact Or.inr (Or.inr rfl))))) (dg_trp (dg_name 4 sc_law_outputs.nd rfl (by first | exact Or.inl rfl | exact Or.inr rfl) (by first | exact Or.inl rfl | exact Or.inr rfl)) (dg_name 5 sc_law_outputs.nd rfl (by first | exact Or.inl rfl | exact Or.inr rfl) (by first | exact Or.inl rfl | exact Or.inr rfl)) (dg_name 6 sc_law_outputs.nd rfl (by first | exact Or.inl rfl | exact Or.inr rfl) (by first | exact Or.inl rfl | exact Or.inr rfl))) (.same (.same (.same (.any (.any (.any (.any (.any (.any .nil))))))))) (fun i_373 s_372 => (ds_set (i := 7) (AsN.toE (by first | exact (as_comp (own := [("operand", 8)]) 7 sc_law_outputs.nd rfl rfl rfl (by decide +kernel) (by decide +kernel) (di_tup (m := (some i_373.x3)) (de_var 6 rfl rfl (by first | exact Or.inl rfl | exact Or.inr (Or.inl rfl) | exact Or.inr (Or.inr rfl)))) (blkOk_by (by dsimp only [ctOf, Ct.blk]; decide +kernel)) (dg_name 8 sc_law_outputs.nd rfl (by first | exact Or.inl rfl | exact Or.inr rfl) (by first | exact Or.inl rfl | exact Or.inr rfl)) (by decide) (fun i_375 => (de_getSO 2 (n := (some i_375)) rfl rfl (by first | exact Or.inl rfl | exact Or.inr (Or.inl rfl) | exact Or.inr (Or.inr rfl)) (de_var 8 rfl rfl (by first | exact Or.inl rfl | exact Or.inr (Or.inl rfl) | exact Or.inr (Or.inr rfl)))))) | exact (as_n 7 (dn_comp (own := [("operand", 8)]) sc_law_outputs.nd (di_tup (m := (some i_373.x3)) (de_var 6 rfl rfl (by first | exact Or.inl rfl | exact Or.inr (Or.inl rfl) | exact Or.inr (Or.inr rfl)))) (blkOk_by (by dsimp only [ctOf, Ct.blk]; decide +kernel)) (dg_name 8 sc_law_outputs.nd rfl (by first | exact Or.inl rfl | exact Or.inr rfl) (by first | exact Or.inl rfl | exact Or.inr rfl)) (by decide) (fun i_375 => (de_getSO 2 (n := (some i_375)) rfl rfl (by first | exact Or.inl rfl | exact Or.inr (Or.inl rfl) | exact Or.inr (Or.inr rfl)) (de_var 8 rfl rfl (by first | exact Or.inl rfl | exact Or.inr (Or.inl rfl) | exact Or.inr (Or.inr rfl)))))) sc_law_outputs.nd rfl (by first | exact Or.inl rfl | exact Or.inr rfl) (by first | exact Or.inl rfl | exact Or.inr rfl) (sw_cell rfl)))) (fun numbers_374 => (ds_if (jk := (fun (s : ((DctS Int))) => ([.val (p_circuit : (Tri (List Str) (List (Trp Str Str (Tup Str))) (List Str))), .val (p_point : (Tup Int)), .dcs (s : (DctS Int)), .any, .val (i_373.x1 : Str), .val (i_373.x2 : Str), .val (i_373.x3 : (Tup Str)), .val (numbers_374 : (List Int)), .any] : List Slot))) (mt := (some (decide (i_373.x2 = ("not" : Str))))) (dt_c1P (f := fun (x : Str) (y : Str) => some (decide (x = y))) cmp_eqS (de_var 5 rfl rfl (by first | exact Or.inl rfl | exact Or.inr (Or.inl rfl) | exact Or.inr (Or.inr rfl))) de_str) (ds_putS 2 (m := (((some (1 : Int))).bind fun v_377 => ((atI numbers_374 (0 : Int))).bind fun v_378 => some (v_377 - v_378))) (n := (some i_373.x1)) rfl rfl (by first | exact Or.inl rfl | exact Or.inr (Or.inl rfl) | exact Or.inr (Or.inr rfl)) (de_sub (ma := (some (1 : Int))) (mb := (atI numbers_374 (0 : Int))) de_int (de_ixLP (De.l (de_var 7 rfl rfl (by first | exact Or.inl rfl | exact Or.inr (Or.inl rfl) | exact Or.inr (Or.inr rfl)))) de_int)) (de_var 4 rfl rfl (by first | exact Or.inl rfl | exact Or.inr (Or.inl rfl) | exact Or.inr (Or.inr rfl))) (fun known_381 => (ds_end (s := known_381) (.same (.same (.same (.any (.same (.same (.same (.same (.any .nil))))))))))) (k := fun known_381 => (.nx known_381))) (ds_if (jk := (fun (s : ((DctS Int))) => ([.val (p_circuit : (Tri (List Str) (List (Trp Str Str (Tup Str))) (List Str))), .val (p_point : (Tup Int)), .dcs (s : (DctS Int)), .any, .val (i_373.x1 : Str), .val (i_373.x2 : Str), .val (i_373.x3 : (Tup Str)), .val (numbers_374 : (List Int)), .any] : List Slot))) (mt := (some (decide (i_373.x2 = ("and" : Str))))) (dt_c1P (f := fun (x : Str) (y : Str) => some (decide (x = y))) cmp_eqS (de_var 5 rfl rfl (by first | exact Or.inl rfl | exact Or.inr (Or.inl rfl) | exact Or.inr (Or.inr rfl))) de_str) (ds_putS 2 (m := (some (if (decide (numbers_374.sum = (2 : Int))) then (1 : Int) else 0))) (n := (some i_373.x1)) rfl rfl (by first | exact Or.inl rfl | exact Or.inr (Or.inl rfl) | exact Or.inr (Or.inr rfl)) (de_intB (m := (some (decide (numbers_374.sum = (2 : Int))))) T.int (de_cP (f := fun (x : Int) (y : Int) => some (decide (x = y))) cmp_eqI (de_sumL (m := (some numbers_374)) T.sum (De.l (de_var 7 rfl rfl (by first | exact Or.inl rfl | exact Or.inr (Or.inl rfl) | exact Or.inr (Or.inr rfl))))) de_int)) (de_var 4 rfl rfl (by first | exact Or.inl rfl | exact Or.inr (Or.inl rfl) | exact Or.inr (Or.inr rfl))) (fun known_384 => (ds_end (s := known_384) (.same (.same (.same (.any (.same (.same (.same (.same (.any .nil))))))))))) (k := fun known_384 => (.nx known_384))) (ds_if (jk := (fun (s : ((DctS Int))) => ([.val (p_circuit : (Tri (List Str) (List (Trp Str Str (Tup Str))) (List Str))), .val (p_point : (Tup Int)), .dcs (s : (DctS Int)), .any, .val (i_373.x1 : Str), .val (i_373.x2 : Str), .val (i_373.x3 : (Tup Str)), .val (numbers_374 : (List Int)), .any] : List Slot))) (mt := (some (decide (i_373.x2 = ("or" : Str))))) (dt_c1P (f := fun (x : Str) (y : Str) => some (decide (x = y))) cmp_eqS (de_var 5 rfl rfl (by first | exact Or.inl rfl | exact Or.inr (Or.inl rfl) | exact Or.inr (Or.inr rfl))) de_str) (ds_putS 2 (m := (some (if (decide ((0 : Int) < numbers_374.sum)) then (1 : Int) else 0))) (n := (some i_373.x1)) rfl rfl (by first | exact Or.inl rfl | exact Or.inr (Or.inl rfl) | exact Or.inr (Or.inr rfl)) (de_intB (m := (some (decide ((0 : Int) < numbers_374.sum)))) T.int (de_cP (f := fun (x : Int) (y : Int) => some (decide (y < x))) cmp_gt (de_sumL (m := (some numbers_374)) T.sum (De.l (de_var 7 rfl rfl (by first | exact Or.inl rfl | exact Or.inr (Or.inl rfl) | exact Or.inr (Or.inr rfl))))) de_int)) (de_var 4 rfl rfl (by first | exact Or.inl rfl | exact Or.inr (Or.inl rfl) | exact Or.inr (Or.inr rfl))) (fun known_387 => (ds_end (s := known_387) (.same (.same (.same (.any (.same (.same (.same (.same (.any .nil))))))))))) (k := fun known_387 => (.nx known_387))) (ds_putS 2 (m := (some (if (decide (numbers_374.sum = (1 : Int))) then (1 : Int) else 0))) (n := (some i_373.x1)) rfl rfl (by first | exact Or.inl rfl | exact Or.inr (Or.inl rfl) | exact Or.inr (Or.inr rfl)) (de_intB (m := (some (decide (numbers_374.sum = (1 : Int))))) T.int (de_cP (f := fun (x : Int) (y : Int) => some (decide (x = y))) cmp_eqI (de_sumL (m := (some numbers_374)) T.sum (De.l (de_var 7 rfl rfl (by first | exact Or.inl rfl | exact Or.inr (Or.inl rfl) | exact Or.inr (Or.inr rfl))))) de_int)) (de_var 4 rfl rfl (by first | exact Or.inl rfl | exact Or.inr (Or.inl rfl) | exact Or.inr (Or.inr rfl))) (fun known_390 => (ds_end (s := known_390) (.same (.same (.same (.any (.same (.same (.same (.same (.any .nil))))))))))) (k := fun known_390 => (.nx known_390))) (fun s_392 => (ds_end (s := s_392) (.same (.same (.same (.any (.same (.same (.same (.same (.any .nil)))))))))))) (fun s_394 => (ds_end (s := s_394) (.same (.same (.same (.any (.same (.same (.same (.same (.any .nil)))))))))))) (fun s_396 => (ds_end (s := s_396) (.same (.same (.same (.any (.any (.any (.any (.any (.any .nil))))))))))))))) (fun s_397 => (ds_ret (m := (((some p_circuit.x3)).bind fun xs_399 => (capI xs_399).bind fun xs_399 => mapO (fun (i_398 : Str) => (s_397.get i_398)) xs_399)) (DeN.de (dn_comp (own := [("name", 4)]) sc_law_outputs.nd (di_list (m := (some p_circuit.x3)) (de_tri3 (m := (some p_circuit)) (de_var 0 rfl rfl (by first | exact Or.inl rfl | exact Or.inr (Or.inl rfl) | exact Or.inr (Or.inr rfl))))) (blkOk_by (by dsimp only [ctOf, Ct.blk]; decide +kernel)) (dg_name 4 sc_law_outputs.nd rfl (by first | exact Or.inl rfl | exact Or.inr rfl) (by first | exact Or.inl rfl | exact Or.inr rfl)) (by decide) (fun i_398 => (de_getSO 2 (n := (some i_398)) rfl rfl (by first | exact Or.inl rfl | exact Or.inr (Or.inl rfl) | exact Or.inr (Or.inr rfl)) (de_var 4 rfl rfl (by first | exact Or.inl rfl | exact Or.inr (Or.inl rfl) | exact Or.inr (Or.inr rfl)))))))))))))
theorem g_law_outputs (T : Tx K mg C fI fdI G fG fdG) : Gd P w K mg base 1 "_law_outputs" (fun p : (Tri (List Str) (List (Trp Str Str (Tup Str))) (List Str)) × (Tup Int) × Unit => m_law_outputs p.1 p.2.1) := T.law_outputs.gd sc_law_outputs (by decide) (fun _ => rfl) (fun _ h => nomatch h) (b_law_outputs T)

theorem sc_law_otherwise : FnScope ["circuit", "cell", "digits", "gates", "k", "fresh", "at", "name", "kind", "operands", "j"] ["circuit", "cell"] (defScope s_law_otherwise) := ⟨rfl, rfl, rfl, by decide +kernel, rfl, by decide +kernel, by decide +kernel⟩
def fl_law_otherwise (p_circuit : (Tri (List Str) (List (Trp Str Str (Tup Str))) (List Str))) (p_cell : Int) : Fl Unit Unit (Tri (List Str) (List (Trp Str Str (Tup Str))) (List Str)) := (Fl.bindO (m_law_digits p_cell (420 : Int) (16 : Int)) fun digits_403 => (Fl.bindO (some ([] : List (Trp Str Str (Tup Str)))) fun gates_404 => (Fl.bindO (rangeI (p_circuit.x2.length : Int)) fun xs_517 => Fl.bind (Fl.loop (fun (i_406 : Int) (s_405 : ((List (Trp Str Str (Tup Str))))) => ((Fl.bindO (atI p_circuit.x2 i_406) fun t_407 => (Fl.bindO (((rangeI (5 : Int))).bind fun xs_416 => (capI xs_416).bind fun xs_416 => mapO (fun (i_409 : Int) => (((((((some ("z" : Str))).bind fun v_410 => ((strI i_406)).bind fun v_411 => (addS v_410 v_411))).bind fun v_412 => ((some ("q" : Str))).bind fun v_413 => (addS v_412 v_413))).bind fun v_414 => ((strI i_409)).bind fun v_415 => (addS v_414 v_415))) xs_416) fun fresh_408 => (Fl.bindO (orO (((((((atI digits_403 i_406)).bind fun v_417 => some v_417)).bind fun v_418 => ((some (3 : Int))).bind fun v_419 => (modI v_418 v_419))).bind fun v_420 => ((some (0 : Int))).bind fun v_421 => some (decide (v_420 = v_421))) (some (decide (t_407.x2 = ("not" : Str))))) fun v_486 => Fl.bind (if v_486 = true then ((Fl.bindO (some (Trp.mk t_407.x1 t_407.x2 t_407.x3)) fun y_422 => if len1 s_405.length = true then (.nx (s_405 ++ [y_422])) else .err) : Fl ((List (Trp Str Str (Tup Str)))) ((List (Trp Str Str (Tup Str)))) (Tri (List Str) (List (Trp Str Str (Tup Str))) (List Str))) else (Fl.bindO (some (decide (t_407.x2 = ("xor" : Str)))) fun v_484 => Fl.bind (if v_484 = true then ((Fl.bindO (((atI fresh_408 (0 : Int))).bind fun v_424 => ((some ("or" : Str))).bind fun v_425 => ((some t_407.x3)).bind fun v_426 => some (Trp.mk v_424 v_425 v_426)) fun y_427 => if len1 s_405.length = true then (Fl.bindO (((atI fresh_408 (1 : Int))).bind fun v_429 => ((some ("and" : Str))).bind fun v_430 => ((some t_407.x3)).bind fun v_431 => some (Trp.mk v_429 v_430 v_431)) fun y_432 => if len1 (s_405 ++ [y_427]).length = true then (Fl.bindO (((atI fresh_408 (2 : Int))).bind fun v_436 => ((some ("not" : Str))).bind fun v_437 => ((((((atI fresh_408 (1 : Int))).bind fun v_434 => ((some ([] : List Str))).bind fun vs_435 => some (v_434 :: vs_435))).bind fun xs => (capL xs).map Tup.mk)).bind fun v_438 => some (Trp.mk v_436 v_437 v_438)) fun y_439 => if len1 ((s_405 ++ [y_427]) ++ [y_432]).length = true then (Fl.bindO (((some t_407.x1)).bind fun v_447 => ((some ("and" : Str))).bind fun v_448 => ((((((atI fresh_408 (0 : Int))).bind fun v_443 => ((((atI fresh_408 (2 : Int))).bind fun v_445 => ((some ([] : List Str))).bind fun vs_446 => some (v_445 :: vs_446))).bind fun vs_444 => some (v_443 :: vs_444))).bind fun xs => (capL xs).map Tup.mk)).bind fun v_449 => some (Trp.mk v_447 v_448 v_449)) fun y_450 => if len1 (((s_405 ++ [y_427]) ++ [y_432]) ++ [y_439]).length = true then (.nx ((((s_405 ++ [y_427]) ++ [y_432]) ++ [y_439]) ++ [y_450])) else .err) else .err) else .err) else .err) : Fl ((List (Trp Str Str (Tup Str)))) ((List (Trp Str Str (Tup Str)))) (Tri (List Str) (List (Trp Str Str (Tup Str))) (List Str))) else (Fl.bindO (((atI fresh_408 (0 : Int))).bind fun v_454 => ((some ("not" : Str))).bind fun v_455 => ((((((atI t_407.x3.l (0 : Int))).bind fun v_452 => ((some ([] : List Str))).bind fun vs_453 => some (v_452 :: vs_453))).bind fun xs => (capL xs).map Tup.mk)).bind fun v_456 => some (Trp.mk v_454 v_455 v_456)) fun y_457 => if len1 s_405.length = true then (Fl.bindO (((atI fresh_408 (1 : Int))).bind fun v_461 => ((some ("not" : Str))).bind fun v_462 => ((((((atI t_407.x3.l (1 : Int))).bind fun v_459 => ((some ([] : List Str))).bind fun vs_460 => some (v_459 :: vs_460))).bind fun xs => (capL xs).map Tup.mk)).bind fun v_463 => some (Trp.mk v_461 v_462 v_463)) fun y_464 => if len1 (s_405 ++ [y_457]).length = true then (Fl.bindO (((atI fresh_408 (2 : Int))).bind fun v_472 => ((atI ([("and" : Str), ("or" : Str)] : List Str) (if (decide (t_407.x2 = ("and" : Str))) then (1 : Int) else 0))).bind fun v_473 => ((((((atI fresh_408 (0 : Int))).bind fun v_468 => ((((atI fresh_408 (1 : Int))).bind fun v_470 => ((some ([] : List Str))).bind fun vs_471 => some (v_470 :: vs_471))).bind fun vs_469 => some (v_468 :: vs_469))).bind fun xs => (capL xs).map Tup.mk)).bind fun v_474 => some (Trp.mk v_472 v_473 v_474)) fun y_475 => if len1 ((s_405 ++ [y_457]) ++ [y_464]).length = true then (Fl.bindO (((some t_407.x1)).bind fun v_479 => ((some ("not" : Str))).bind fun v_480 => ((((((atI fresh_408 (2 : Int))).bind fun v_477 => ((some ([] : List Str))).bind fun vs_478 => some (v_477 :: vs_478))).bind fun xs => (capL xs).map Tup.mk)).bind fun v_481 => some (Trp.mk v_479 v_480 v_481)) fun y_482 => if len1 (((s_405 ++ [y_457]) ++ [y_464]) ++ [y_475]).length = true then (.nx ((((s_405 ++ [y_457]) ++ [y_464]) ++ [y_475]) ++ [y_482])) else .err) else .err) else .err) else .err)) fun s_485 => (.nx s_485))) fun s_487 => (.nx s_487)))) : Fl ((List (Trp Str Str (Tup Str)))) ((List (Trp Str Str (Tup Str)))) (Tri (List Str) (List (Trp Str Str (Tup Str))) (List Str)))) xs_517 gates_404 : Fl ((List (Trp Str Str (Tup Str)))) Unit (Tri (List Str) (List (Trp Str Str (Tup Str))) (List Str))) fun s_488 => (Fl.bindO (andO (((((((atI digits_403 (13 : Int))).bind fun v_489 => some v_489)).bind fun v_490 => ((some (3 : Int))).bind fun v_491 => (modI v_490 v_491))).bind fun v_492 => ((some (1 : Int))).bind fun v_493 => some (decide (v_492 = v_493))) (some (decide ((0 : Int) < (s_488.length : Int))))) fun v_514 => Fl.bind (if v_514 = true then ((Fl.bindO (((((atI digits_403 (14 : Int))).bind fun v_495 => some v_495)).bind fun v_496 => ((some (s_488.length : Int))).bind fun v_497 => (modI v_496 v_497)) fun at_494 => (Fl.bindO (atI s_488 at_494) fun t_498 => (Fl.bindO (some (!decide (t_498.x2 = ("not" : Str)))) fun v_512 => Fl.bind (if v_512 = true then ((Fl.bindO (((some t_498.x1)).bind fun v_504 => ((((some ([("and" : Str), ("or" : Str), ("xor" : Str)] : List Str))).bind fun v_502 => ((((((atI digits_403 (15 : Int))).bind fun v_499 => some v_499)).bind fun v_500 => ((some (3 : Int))).bind fun v_501 => (modI v_500 v_501))).bind fun v_503 => (atI v_502 v_503))).bind fun v_505 => ((some t_498.x3)).bind fun v_506 => some (Trp.mk v_504 v_505 v_506)) fun y_507 => Fl.bindO (some at_494) fun z_508 => Fl.bindO (ixN s_488.length z_508) fun q_509 => (fun gates_510 => (.nx gates_510)) (s_488.set q_509 y_507)) : Fl ((List (Trp Str Str (Tup Str)))) Unit (Tri (List Str) (List (Trp Str Str (Tup Str))) (List Str))) else (.nx s_488)) fun s_513 => (.nx s_513)))) : Fl ((List (Trp Str Str (Tup Str)))) Unit (Tri (List Str) (List (Trp Str Str (Tup Str))) (List Str))) else (.nx s_488)) fun s_515 => (Fl.bindO (some (Tri.mk p_circuit.x1 s_515 p_circuit.x3)) fun r_516 => .rt r_516)))))
def m_law_otherwise (p_circuit : (Tri (List Str) (List (Trp Str Str (Tup Str))) (List Str))) (p_cell : Int) : Option (Tri (List Str) (List (Trp Str Str (Tup Str))) (List Str)) := (fl_law_otherwise p_circuit p_cell).fin none
theorem b_law_otherwise (T : Tx K mg C fI fdI G fG fdG) (p : (Tri (List Str) (List (Trp Str Str (Tup Str))) (List Str)) × Int × Unit) : DeSN (ctOf P w K mg base 1 ["circuit", "cell", "digits", "gates", "k", "fresh", "at", "name", "kind", "operands", "j"] (defScope s_law_otherwise)) (Pk.sl p ++ List.replicate (11 - (Pk.sl p).length) .any) (defBody s_law_otherwise) (fun _ : Unit => List.replicate 11 .any) (fun _ : Unit => []) (fl_law_otherwise p.1 p.2.1) := by
  obtain ⟨p_circuit, p_cell, _⟩ := p
  unfold fl_law_otherwise
  exact (dsn_set (i := 2) (as_e (m := (m_law_digits p_cell (420 : Int) (16 : Int))) 2 (de_call3P (a1 := p_cell) (a2 := (420 : Int)) (a3 := (16 : Int)) (f := fun p : Int × Int × Int × Unit => m_law_digits p.1 p.2.1 p.2.2.1) ((g_law_digits T).df) (de_var 1 rfl rfl (by first | exact Or.inl rfl | exact Or.inr (Or.inl rfl) | exact Or.inr (Or.inr rfl))) de_int de_int) sc_law_otherwise.nd rfl (by first | exact Or.inl rfl | exact Or.inr rfl) (by first | exact Or.inl rfl | exact Or.inr rfl) (fun _ _ => rfl)) (fun digits_403 => (dsn_own (i := 3) (as_n 3 (dn_lstP di_nil) sc_law_otherwise.nd rfl (by first | exact Or.inl rfl | exact Or.inr rfl) (by first | exact Or.inl rfl | exact Or.inr rfl) (fun _ _ => rfl)) (fun gates_404 => (dsn_for (sk := (fun (s : ((List (Trp Str Str (Tup Str))))) => ([.val (p_circuit : (Tri (List Str) (List (Trp Str Str (Tup Str))) (List Str))), .val (p_cell : Int), .val (digits_403 : (List Int)), .own (s : (List (Trp Str Str (Tup Str)))), .any, .any, .any, .any, .any, .any, .any] : List Slot))) (s0 := gates_404) (di_rangeP  T.range (de_lenLP  T.len (De.l (de_tri2 (m := (some p_circuit)) (de_var 0 rfl rfl (by first | exact Or.inl rfl | exact Or.inr (Or.inl rfl) | exact Or.inr (Or.inr rfl))))))) (dg_name 4 sc_law_otherwise.nd rfl (by first | exact Or.inl rfl | exact Or.inr rfl) (by first | exact Or.inl rfl | exact Or.inr rfl)) (by exact (.same (.same (.same (.same (.any (.any (.any (.any (.any (.any (.any .nil)))))))))))) (fun i_406 s_405 => (dsn_unpack (de_ixLP (De.l (de_tri2 (m := (some p_circuit)) (de_var 0 rfl rfl (by first | exact Or.inl rfl | exact Or.inr (Or.inl rfl) | exact Or.inr (Or.inr rfl))))) (de_var 4 rfl rfl (by first | exact Or.inl rfl | exact Or.inr (Or.inl rfl) | exact Or.inr (Or.inr rfl)))) (dg_trp (dg_name 7 sc_law_otherwise.nd rfl (by first | exact Or.inl rfl | exact Or.inr rfl) (by first | exact Or.inl rfl | exact Or.inr rfl)) (dg_name 8 sc_law_otherwise.nd rfl (by first | exact Or.inl rfl | exact Or.inr rfl) (by first | exact Or.inl rfl | exact Or.inr rfl)) (dg_name 9 sc_law_otherwise.nd rfl (by first | exact Or.inl rfl | exact Or.inr rfl) (by first | exact Or.inl rfl | exact Or.inr rfl))) (fun t_407 => (dsn_set (i := 5) (AsN.toE (by first | exact (as_comp (own := [("j", 10)]) 5 sc_law_otherwise.nd rfl rfl rfl (by decide +kernel) (by decide +kernel) (di_rangeP  T.range de_int) (blkOk_by (by dsimp only [ctOf, Ct.blk]; decide +kernel)) (dg_name 10 sc_law_otherwise.nd rfl (by first | exact Or.inl rfl | exact Or.inr rfl) (by first | exact Or.inl rfl | exact Or.inr rfl)) (by decide) (fun i_409 => (de_addS (ma := (((((some ("z" : Str))).bind fun v_410 => ((strI i_406)).bind fun v_411 => (addS v_410 v_411))).bind fun v_412 => ((some ("q" : Str))).bind fun v_413 => (addS v_412 v_413))) (mb := (strI i_409)) (de_addS (ma := (((some ("z" : Str))).bind fun v_410 => ((strI i_406)).bind fun v_411 => (addS v_410 v_411))) (mb := (some ("q" : Str))) (de_addS (ma := (some ("z" : Str))) (mb := (strI i_406)) de_str (de_strI (m := (some i_406)) T.str (de_var 4 rfl rfl (by first | exact Or.inl rfl | exact Or.inr (Or.inl rfl) | exact Or.inr (Or.inr rfl))))) de_str) (de_strI (m := (some i_409)) T.str (de_var 10 rfl rfl (by first | exact Or.inl rfl | exact Or.inr (Or.inl rfl) | exact Or.inr (Or.inr rfl))))))) | exact (as_n 5 (dn_comp (own := [("j", 10)]) sc_law_otherwise.nd (di_rangeP  T.range de_int) (blkOk_by (by dsimp only [ctOf, Ct.blk]; decide +kernel)) (dg_name 10 sc_law_otherwise.nd rfl (by first | exact Or.inl rfl | exact Or.inr rfl) (by first | exact Or.inl rfl | exact Or.inr rfl)) (by decide) (fun i_409 => (de_addS (ma := (((((some ("z" : Str))).bind fun v_410 => ((strI i_406)).bind fun v_411 => (addS v_410 v_411))).bind fun v_412 => ((some ("q" : Str))).bind fun v_413 => (addS v_412 v_413))) (mb := (strI i_409)) (de_addS (ma := (((some ("z" : Str))).bind fun v_410 => ((strI i_406)).bind fun v_411 => (addS v_410 v_411))) (mb := (some ("q" : Str))) (de_addS (ma := (some ("z" : Str))) (mb := (strI i_406)) de_str (de_strI (m := (some i_406)) T.str (de_var 4 rfl rfl (by first | exact Or.inl rfl | exact Or.inr (Or.inl rfl) | exact Or.inr (Or.inr rfl))))) de_str) (de_strI (m := (some i_409)) T.str (de_var 10 rfl rfl (by first | exact Or.inl rfl | exact Or.inr (Or.inl rfl) | exact Or.inr (Or.inr rfl))))))) sc_law_otherwise.nd rfl (by first | exact Or.inl rfl | exact Or.inr rfl) (by first | exact Or.inl rfl | exact Or.inr rfl) (sw_cell rfl)))) (fun fresh_408 => (dsn_if (jk := (fun (s : ((List (Trp Str Str (Tup Str))))) => ([.val (p_circuit : (Tri (List Str) (List (Trp Str Str (Tup Str))) (List Str))), .val (p_cell : Int), .val (digits_403 : (List Int)), .own (s : (List (Trp Str Str (Tup Str)))), .val (i_406 : Int), .val (fresh_408 : (List Str)), .any, .val (t_407.x1 : Str), .val (t_407.x2 : Str), .val (t_407.x3 : (Tup Str)), .any] : List Slot))) (mt := (orO (((((((atI digits_403 i_406)).bind fun v_417 => some v_417)).bind fun v_418 => ((some (3 : Int))).bind fun v_419 => (modI v_418 v_419))).bind fun v_420 => ((some (0 : Int))).bind fun v_421 => some (decide (v_420 = v_421))) (some (decide (t_407.x2 = ("not" : Str)))))) (DeW.t (dw_or (dt_c1 (ma := (((((atI digits_403 i_406)).bind fun v_417 => some v_417)).bind fun v_418 => ((some (3 : Int))).bind fun v_419 => (modI v_418 v_419))) (mb := (some (0 : Int))) (f := fun (x : Int) (y : Int) => some (decide (x = y))) cmp_eqI (de_mod (ma := (((atI digits_403 i_406)).bind fun v_417 => some v_417)) (mb := (some (3 : Int))) (de_intI (m := (atI digits_403 i_406)) T.int (de_ixLP (De.l (de_var 2 rfl rfl (by first | exact Or.inl rfl | exact Or.inr (Or.inl rfl) | exact Or.inr (Or.inr rfl)))) (de_var 4 rfl rfl (by first | exact Or.inl rfl | exact Or.inr (Or.inl rfl) | exact Or.inr (Or.inr rfl))))) de_int) de_int) (dw_or1 (dt_c1P (f := fun (x : Str) (y : Str) => some (decide (x = y))) cmp_eqS (de_var 8 rfl rfl (by first | exact Or.inl rfl | exact Or.inr (Or.inl rfl) | exact Or.inr (Or.inr rfl))) de_str)))) (dsn_append 3 rfl rfl (by first | exact Or.inl rfl | exact Or.inr (Or.inl rfl) | exact Or.inr (Or.inr rfl)) (de_trp (m1 := (some t_407.x1)) (m2 := (some t_407.x2)) (m3 := (some t_407.x3)) (de_var 7 rfl rfl (by first | exact Or.inl rfl | exact Or.inr (Or.inl rfl) | exact Or.inr (Or.inr rfl))) (de_var 8 rfl rfl (by first | exact Or.inl rfl | exact Or.inr (Or.inl rfl) | exact Or.inr (Or.inr rfl))) (de_var 9 rfl rfl (by first | exact Or.inl rfl | exact Or.inr (Or.inl rfl) | exact Or.inr (Or.inr rfl)))) (fun y_422 => (dsn_end (s := (s_405 ++ [y_422])) (by exact (.same (.same (.same (.same (.same (.same (.any (.same (.same (.same (.any .nil)))))))))))))) (k := fun gates_423 => (.nx gates_423))) (dsn_if (jk := (fun (s : ((List (Trp Str Str (Tup Str))))) => ([.val (p_circuit : (Tri (List Str) (List (Trp Str Str (Tup Str))) (List Str))), .val (p_cell : Int), .val (digits_403 : (List Int)), .own (s : (List (Trp Str Str (Tup Str)))), .val (i_406 : Int), .val (fresh_408 : (List Str)), .any, .val (t_407.x1 : Str), .val (t_407.x2 : Str), .val (t_407.x3 : (Tup Str)), .any] : List Slot))) (mt := (some (decide (t_407.x2 = ("xor" : Str))))) (dt_c1P (f := fun (x : Str) (y : Str) => some (decide (x = y))) cmp_eqS (de_var 8 rfl rfl (by first | exact Or.inl rfl | exact Or.inr (Or.inl rfl) | exact Or.inr (Or.inr rfl))) de_str) (dsn_append 3 rfl rfl (by first | exact Or.inl rfl | exact Or.inr (Or.inl rfl) | exact Or.inr (Or.inr rfl)) (de_trp (m1 := (atI fresh_408 (0 : Int))) (m2 := (some ("or" : Str))) (m3 := (some t_407.x3)) (de_ixLP (De.l (de_var 5 rfl rfl (by first | exact Or.inl rfl | exact Or.inr (Or.inl rfl) | exact Or.inr (Or.inr rfl)))) de_int) de_str (de_var 9 rfl rfl (by first | exact Or.inl rfl | exact Or.inr (Or.inl rfl) | exact Or.inr (Or.inr rfl)))) (fun y_427 => (dsn_append 3 rfl rfl (by first | exact Or.inl rfl | exact Or.inr (Or.inl rfl) | exact Or.inr (Or.inr rfl)) (de_trp (m1 := (atI fresh_408 (1 : Int))) (m2 := (some ("and" : Str))) (m3 := (some t_407.x3)) (de_ixLP (De.l (de_var 5 rfl rfl (by first | exact Or.inl rfl | exact Or.inr (Or.inl rfl) | exact Or.inr (Or.inr rfl)))) de_int) de_str (de_var 9 rfl rfl (by first | exact Or.inl rfl | exact Or.inr (Or.inl rfl) | exact Or.inr (Or.inr rfl)))) (fun y_432 => (dsn_append 3 rfl rfl (by first | exact Or.inl rfl | exact Or.inr (Or.inl rfl) | exact Or.inr (Or.inr rfl)) (de_trp (m1 := (atI fresh_408 (2 : Int))) (m2 := (some ("not" : Str))) (m3 := (((((atI fresh_408 (1 : Int))).bind fun v_434 => ((some ([] : List Str))).bind fun vs_435 => some (v_434 :: vs_435))).bind fun xs => (capL xs).map Tup.mk)) (de_ixLP (De.l (de_var 5 rfl rfl (by first | exact Or.inl rfl | exact Or.inr (Or.inl rfl) | exact Or.inr (Or.inr rfl)))) de_int) de_str (de_tupH (m := (((atI fresh_408 (1 : Int))).bind fun v_434 => ((some ([] : List Str))).bind fun vs_435 => some (v_434 :: vs_435))) (di_cons (m := (atI fresh_408 (1 : Int))) (n := (some ([] : List Str))) (de_ixLP (De.l (de_var 5 rfl rfl (by first | exact Or.inl rfl | exact Or.inr (Or.inl rfl) | exact Or.inr (Or.inr rfl)))) de_int) di_nil))) (fun y_439 => (dsn_append 3 rfl rfl (by first | exact Or.inl rfl | exact Or.inr (Or.inl rfl) | exact Or.inr (Or.inr rfl)) (de_trp (m1 := (some t_407.x1)) (m2 := (some ("and" : Str))) (m3 := (((((atI fresh_408 (0 : Int))).bind fun v_443 => ((((atI fresh_408 (2 : Int))).bind fun v_445 => ((some ([] : List Str))).bind fun vs_446 => some (v_445 :: vs_446))).bind fun vs_444 => some (v_443 :: vs_444))).bind fun xs => (capL xs).map Tup.mk)) (de_var 7 rfl rfl (by first | exact Or.inl rfl | exact Or.inr (Or.inl rfl) | exact Or.inr (Or.inr rfl))) de_str (de_tupH (m := (((atI fresh_408 (0 : Int))).bind fun v_443 => ((((atI fresh_408 (2 : Int))).bind fun v_445 => ((some ([] : List Str))).bind fun vs_446 => some (v_445 :: vs_446))).bind fun vs_444 => some (v_443 :: vs_444))) (di_cons (m := (atI fresh_408 (0 : Int))) (n := (((atI fresh_408 (2 : Int))).bind fun v_441 => ((some ([] : List Str))).bind fun vs_442 => some (v_441 :: vs_442))) (de_ixLP (De.l (de_var 5 rfl rfl (by first | exact Or.inl rfl | exact Or.inr (Or.inl rfl) | exact Or.inr (Or.inr rfl)))) de_int) (di_cons (m := (atI fresh_408 (2 : Int))) (n := (some ([] : List Str))) (de_ixLP (De.l (de_var 5 rfl rfl (by first | exact Or.inl rfl | exact Or.inr (Or.inl rfl) | exact Or.inr (Or.inr rfl)))) de_int) di_nil)))) (fun y_450 => (dsn_end (s := ((((s_405 ++ [y_427]) ++ [y_432]) ++ [y_439]) ++ [y_450])) (by exact (.same (.same (.same (.same (.same (.same (.any (.same (.same (.same (.any .nil)))))))))))))) (k := fun gates_451 => (.nx gates_451)))) (k := fun gates_440 => (Fl.bindO (((some t_407.x1)).bind fun v_447 => ((some ("and" : Str))).bind fun v_448 => ((((((atI fresh_408 (0 : Int))).bind fun v_443 => ((((atI fresh_408 (2 : Int))).bind fun v_445 => ((some ([] : List Str))).bind fun vs_446 => some (v_445 :: vs_446))).bind fun vs_444 => some (v_443 :: vs_444))).bind fun xs => (capL xs).map Tup.mk)).bind fun v_449 => some (Trp.mk v_447 v_448 v_449)) fun y_450 => if len1 gates_440.length = true then (.nx (gates_440 ++ [y_450])) else .err)))) (k := fun gates_433 => (Fl.bindO (((atI fresh_408 (2 : Int))).bind fun v_436 => ((some ("not" : Str))).bind fun v_437 => ((((((atI fresh_408 (1 : Int))).bind fun v_434 => ((some ([] : List Str))).bind fun vs_435 => some (v_434 :: vs_435))).bind fun xs => (capL xs).map Tup.mk)).bind fun v_438 => some (Trp.mk v_436 v_437 v_438)) fun y_439 => if len1 gates_433.length = true then (Fl.bindO (((some t_407.x1)).bind fun v_447 => ((some ("and" : Str))).bind fun v_448 => ((((((atI fresh_408 (0 : Int))).bind fun v_443 => ((((atI fresh_408 (2 : Int))).bind fun v_445 => ((some ([] : List Str))).bind fun vs_446 => some (v_445 :: vs_446))).bind fun vs_444 => some (v_443 :: vs_444))).bind fun xs => (capL xs).map Tup.mk)).bind fun v_449 => some (Trp.mk v_447 v_448 v_449)) fun y_450 => if len1 (gates_433 ++ [y_439]).length = true then (.nx ((gates_433 ++ [y_439]) ++ [y_450])) else .err) else .err)))) (k := fun gates_428 => (Fl.bindO (((atI fresh_408 (1 : Int))).bind fun v_429 => ((some ("and" : Str))).bind fun v_430 => ((some t_407.x3)).bind fun v_431 => some (Trp.mk v_429 v_430 v_431)) fun y_432 => if len1 gates_428.length = true then (Fl.bindO (((atI fresh_408 (2 : Int))).bind fun v_436 => ((some ("not" : Str))).bind fun v_437 => ((((((atI fresh_408 (1 : Int))).bind fun v_434 => ((some ([] : List Str))).bind fun vs_435 => some (v_434 :: vs_435))).bind fun xs => (capL xs).map Tup.mk)).bind fun v_438 => some (Trp.mk v_436 v_437 v_438)) fun y_439 => if len1 (gates_428 ++ [y_432]).length = true then (Fl.bindO (((some t_407.x1)).bind fun v_447 => ((some ("and" : Str))).bind fun v_448 => ((((((atI fresh_408 (0 : Int))).bind fun v_443 => ((((atI fresh_408 (2 : Int))).bind fun v_445 => ((some ([] : List Str))).bind fun vs_446 => some (v_445 :: vs_446))).bind fun vs_444 => some (v_443 :: vs_444))).bind fun xs => (capL xs).map Tup.mk)).bind fun v_449 => some (Trp.mk v_447 v_448 v_449)) fun y_450 => if len1 ((gates_428 ++ [y_432]) ++ [y_439]).length = true then (.nx (((gates_428 ++ [y_432]) ++ [y_439]) ++ [y_450])) else .err) else .err) else .err))) (dsn_append 3 rfl rfl (by first | exact Or.inl rfl | exact Or.inr (Or.inl rfl) | exact Or.inr (Or.inr rfl)) (de_trp (m1 := (atI fresh_408 (0 : Int))) (m2 := (some ("not" : Str))) (m3 := (((((atI t_407.x3.l (0 : Int))).bind fun v_452 => ((some ([] : List Str))).bind fun vs_453 => some (v_452 :: vs_453))).bind fun xs => (capL xs).map Tup.mk)) (de_ixLP (De.l (de_var 5 rfl rfl (by first | exact Or.inl rfl | exact Or.inr (Or.inl rfl) | exact Or.inr (Or.inr rfl)))) de_int) de_str (de_tupH (m := (((atI t_407.x3.l (0 : Int))).bind fun v_452 => ((some ([] : List Str))).bind fun vs_453 => some (v_452 :: vs_453))) (di_cons (m := (atI t_407.x3.l (0 : Int))) (n := (some ([] : List Str))) (de_ixTP (de_var 9 rfl rfl (by first | exact Or.inl rfl | exact Or.inr (Or.inl rfl) | exact Or.inr (Or.inr rfl))) de_int) di_nil))) (fun y_457 => (dsn_append 3 rfl rfl (by first | exact Or.inl rfl | exact Or.inr (Or.inl rfl) | exact Or.inr (Or.inr rfl)) (de_trp (m1 := (atI fresh_408 (1 : Int))) (m2 := (some ("not" : Str))) (m3 := (((((atI t_407.x3.l (1 : Int))).bind fun v_459 => ((some ([] : List Str))).bind fun vs_460 => some (v_459 :: vs_460))).bind fun xs => (capL xs).map Tup.mk)) (de_ixLP (De.l (de_var 5 rfl rfl (by first | exact Or.inl rfl | exact Or.inr (Or.inl rfl) | exact Or.inr (Or.inr rfl)))) de_int) de_str (de_tupH (m := (((atI t_407.x3.l (1 : Int))).bind fun v_459 => ((some ([] : List Str))).bind fun vs_460 => some (v_459 :: vs_460))) (di_cons (m := (atI t_407.x3.l (1 : Int))) (n := (some ([] : List Str))) (de_ixTP (de_var 9 rfl rfl (by first | exact Or.inl rfl | exact Or.inr (Or.inl rfl) | exact Or.inr (Or.inr rfl))) de_int) di_nil))) (fun y_464 => (dsn_append 3 rfl rfl (by first | exact Or.inl rfl | exact Or.inr (Or.inl rfl) | exact Or.inr (Or.inr rfl)) (de_trp (m1 := (atI fresh_408 (2 : Int))) (m2 := (atI ([("and" : Str), ("or" : Str)] : List Str) (if (decide (t_407.x2 = ("and" : Str))) then (1 : Int) else 0))) (m3 := (((((atI fresh_408 (0 : Int))).bind fun v_468 => ((((atI fresh_408 (1 : Int))).bind fun v_470 => ((some ([] : List Str))).bind fun vs_471 => some (v_470 :: vs_471))).bind fun vs_469 => some (v_468 :: vs_469))).bind fun xs => (capL xs).map Tup.mk)) (de_ixLP (De.l (de_var 5 rfl rfl (by first | exact Or.inl rfl | exact Or.inr (Or.inl rfl) | exact Or.inr (Or.inr rfl)))) de_int) (de_ixLP (DeN.l (dn_lstP (di_consP de_str (di_consP de_str di_nil)))) (de_intB (m := (some (decide (t_407.x2 = ("and" : Str))))) T.int (de_cP (f := fun (x : Str) (y : Str) => some (decide (x = y))) cmp_eqS (de_var 8 rfl rfl (by first | exact Or.inl rfl | exact Or.inr (Or.inl rfl) | exact Or.inr (Or.inr rfl))) de_str))) (de_tupH (m := (((atI fresh_408 (0 : Int))).bind fun v_468 => ((((atI fresh_408 (1 : Int))).bind fun v_470 => ((some ([] : List Str))).bind fun vs_471 => some (v_470 :: vs_471))).bind fun vs_469 => some (v_468 :: vs_469))) (di_cons (m := (atI fresh_408 (0 : Int))) (n := (((atI fresh_408 (1 : Int))).bind fun v_466 => ((some ([] : List Str))).bind fun vs_467 => some (v_466 :: vs_467))) (de_ixLP (De.l (de_var 5 rfl rfl (by first | exact Or.inl rfl | exact Or.inr (Or.inl rfl) | exact Or.inr (Or.inr rfl)))) de_int) (di_cons (m := (atI fresh_408 (1 : Int))) (n := (some ([] : List Str))) (de_ixLP (De.l (de_var 5 rfl rfl (by first | exact Or.inl rfl | exact Or.inr (Or.inl rfl) | exact Or.inr (Or.inr rfl)))) de_int) di_nil)))) (fun y_475 => (dsn_append 3 rfl rfl (by first | exact Or.inl rfl | exact Or.inr (Or.inl rfl) | exact Or.inr (Or.inr rfl)) (de_trp (m1 := (some t_407.x1)) (m2 := (some ("not" : Str))) (m3 := (((((atI fresh_408 (2 : Int))).bind fun v_477 => ((some ([] : List Str))).bind fun vs_478 => some (v_477 :: vs_478))).bind fun xs => (capL xs).map Tup.mk)) (de_var 7 rfl rfl (by first | exact Or.inl rfl | exact Or.inr (Or.inl rfl) | exact Or.inr (Or.inr rfl))) de_str (de_tupH (m := (((atI fresh_408 (2 : Int))).bind fun v_477 => ((some ([] : List Str))).bind fun vs_478 => some (v_477 :: vs_478))) (di_cons (m := (atI fresh_408 (2 : Int))) (n := (some ([] : List Str))) (de_ixLP (De.l (de_var 5 rfl rfl (by first | exact Or.inl rfl | exact Or.inr (Or.inl rfl) | exact Or.inr (Or.inr rfl)))) de_int) di_nil))) (fun y_482 => (dsn_end (s := ((((s_405 ++ [y_457]) ++ [y_464]) ++ [y_475]) ++ [y_482])) (by exact (.same (.same (.same (.same (.same (.same (.any (.same (.same (.same (.any .nil)))))))))))))) (k := fun gates_483 => (.nx gates_483)))) (k := fun gates_476 => (Fl.bindO (((some t_407.x1)).bind fun v_479 => ((some ("not" : Str))).bind fun v_480 => ((((((atI fresh_408 (2 : Int))).bind fun v_477 => ((some ([] : List Str))).bind fun vs_478 => some (v_477 :: vs_478))).bind fun xs => (capL xs).map Tup.mk)).bind fun v_481 => some (Trp.mk v_479 v_480 v_481)) fun y_482 => if len1 gates_476.length = true then (.nx (gates_476 ++ [y_482])) else .err)))) (k := fun gates_465 => (Fl.bindO (((atI fresh_408 (2 : Int))).bind fun v_472 => ((atI ([("and" : Str), ("or" : Str)] : List Str) (if (decide (t_407.x2 = ("and" : Str))) then (1 : Int) else 0))).bind fun v_473 => ((((((atI fresh_408 (0 : Int))).bind fun v_468 => ((((atI fresh_408 (1 : Int))).bind fun v_470 => ((some ([] : List Str))).bind fun vs_471 => some (v_470 :: vs_471))).bind fun vs_469 => some (v_468 :: vs_469))).bind fun xs => (capL xs).map Tup.mk)).bind fun v_474 => some (Trp.mk v_472 v_473 v_474)) fun y_475 => if len1 gates_465.length = true then (Fl.bindO (((some t_407.x1)).bind fun v_479 => ((some ("not" : Str))).bind fun v_480 => ((((((atI fresh_408 (2 : Int))).bind fun v_477 => ((some ([] : List Str))).bind fun vs_478 => some (v_477 :: vs_478))).bind fun xs => (capL xs).map Tup.mk)).bind fun v_481 => some (Trp.mk v_479 v_480 v_481)) fun y_482 => if len1 (gates_465 ++ [y_475]).length = true then (.nx ((gates_465 ++ [y_475]) ++ [y_482])) else .err) else .err)))) (k := fun gates_458 => (Fl.bindO (((atI fresh_408 (1 : Int))).bind fun v_461 => ((some ("not" : Str))).bind fun v_462 => ((((((atI t_407.x3.l (1 : Int))).bind fun v_459 => ((some ([] : List Str))).bind fun vs_460 => some (v_459 :: vs_460))).bind fun xs => (capL xs).map Tup.mk)).bind fun v_463 => some (Trp.mk v_461 v_462 v_463)) fun y_464 => if len1 gates_458.length = true then (Fl.bindO (((atI fresh_408 (2 : Int))).bind fun v_472 => ((atI ([("and" : Str), ("or" : Str)] : List Str) (if (decide (t_407.x2 = ("and" : Str))) then (1 : Int) else 0))).bind fun v_473 => ((((((atI fresh_408 (0 : Int))).bind fun v_468 => ((((atI fresh_408 (1 : Int))).bind fun v_470 => ((some ([] : List Str))).bind fun vs_471 => some (v_470 :: vs_471))).bind fun vs_469 => some (v_468 :: vs_469))).bind fun xs => (capL xs).map Tup.mk)).bind fun v_474 => some (Trp.mk v_472 v_473 v_474)) fun y_475 => if len1 (gates_458 ++ [y_464]).length = true then (Fl.bindO (((some t_407.x1)).bind fun v_479 => ((some ("not" : Str))).bind fun v_480 => ((((((atI fresh_408 (2 : Int))).bind fun v_477 => ((some ([] : List Str))).bind fun vs_478 => some (v_477 :: vs_478))).bind fun xs => (capL xs).map Tup.mk)).bind fun v_481 => some (Trp.mk v_479 v_480 v_481)) fun y_482 => if len1 ((gates_458 ++ [y_464]) ++ [y_475]).length = true then (.nx (((gates_458 ++ [y_464]) ++ [y_475]) ++ [y_482])) else .err) else .err) else .err))) (fun s_485 => (dsn_end (s := s_485) (by exact (.same (.same (.same (.same (.same (.same (.any (.same (.same (.same (.any .nil))))))))))))))) (fun s_487 => (dsn_end (s := s_487) (by exact (.same (.same (.same (.same (.any (.any (.any (.any (.any (.any (.any .nil)))))))))))))))))))) (fun s_488 => (dsn_if (jk := (fun (s : ((List (Trp Str Str (Tup Str))))) => ([.val (p_circuit : (Tri (List Str) (List (Trp Str Str (Tup Str))) (List Str))), .val (p_cell : Int), .val (digits_403 : (List Int)), .own (s : (List (Trp Str Str (Tup Str)))), .any, .any, .any, .any, .any, .any, .any] : List Slot))) (mt := (andO (((((((atI digits_403 (13 : Int))).bind fun v_489 => some v_489)).bind fun v_490 => ((some (3 : Int))).bind fun v_491 => (modI v_490 v_491))).bind fun v_492 => ((some (1 : Int))).bind fun v_493 => some (decide (v_492 = v_493))) (some (decide ((0 : Int) < (s_488.length : Int)))))) (DeW.t (dw_and (dt_c1 (ma := (((((atI digits_403 (13 : Int))).bind fun v_489 => some v_489)).bind fun v_490 => ((some (3 : Int))).bind fun v_491 => (modI v_490 v_491))) (mb := (some (1 : Int))) (f := fun (x : Int) (y : Int) => some (decide (x = y))) cmp_eqI (de_mod (ma := (((atI digits_403 (13 : Int))).bind fun v_489 => some v_489)) (mb := (some (3 : Int))) (de_intI (m := (atI digits_403 (13 : Int))) T.int (de_ixLP (De.l (de_var 2 rfl rfl (by first | exact Or.inl rfl | exact Or.inr (Or.inl rfl) | exact Or.inr (Or.inr rfl)))) de_int)) de_int) de_int) (dw_and1 (dt_c1P (f := fun (x : Int) (y : Int) => some (decide (y < x))) cmp_gt (de_lenLP  T.len (dl_own 3 rfl rfl (by first | exact Or.inl rfl | exact Or.inr (Or.inl rfl) | exact Or.inr (Or.inr rfl)))) de_int)))) (dsn_set (i := 6) (as_e (m := (((((atI digits_403 (14 : Int))).bind fun v_495 => some v_495)).bind fun v_496 => ((some (s_488.length : Int))).bind fun v_497 => (modI v_496 v_497))) 6 (de_mod (ma := (((atI digits_403 (14 : Int))).bind fun v_495 => some v_495)) (mb := (some (s_488.length : Int))) (de_intI (m := (atI digits_403 (14 : Int))) T.int (de_ixLP (De.l (de_var 2 rfl rfl (by first | exact Or.inl rfl | exact Or.inr (Or.inl rfl) | exact Or.inr (Or.inr rfl)))) de_int)) (de_lenLP  T.len (dl_own 3 rfl rfl (by first | exact Or.inl rfl | exact Or.inr (Or.inl rfl) | exact Or.inr (Or.inr rfl))))) sc_law_otherwise.nd rfl (by first | exact Or.inl rfl | exact Or.inr rfl) (by first | exact Or.inl rfl | exact Or.inr rfl) (fun _ _ => rfl)) (fun at_494 => (dsn_unpack (de_ixLP (dl_own 3 rfl rfl (by first | exact Or.inl rfl | exact Or.inr (Or.inl rfl) | exact Or.inr (Or.inr rfl))) (de_var 6 rfl rfl (by first | exact Or.inl rfl | exact Or.inr (Or.inl rfl) | exact Or.inr (Or.inr rfl)))) (dg_trp (dg_name 7 sc_law_otherwise.nd rfl (by first | exact Or.inl rfl | exact Or.inr rfl) (by first | exact Or.inl rfl | exact Or.inr rfl)) (dg_name 8 sc_law_otherwise.nd rfl (by first | exact Or.inl rfl | exact Or.inr rfl) (by first | exact Or.inl rfl | exact Or.inr rfl)) (dg_name 9 sc_law_otherwise.nd rfl (by first | exact Or.inl rfl | exact Or.inr rfl) (by first | exact Or.inl rfl | exact Or.inr rfl))) (fun t_498 => (dsn_if (jk := (fun (s : ((List (Trp Str Str (Tup Str))))) => ([.val (p_circuit : (Tri (List Str) (List (Trp Str Str (Tup Str))) (List Str))), .val (p_cell : Int), .val (digits_403 : (List Int)), .own (s : (List (Trp Str Str (Tup Str)))), .any, .any, .val (at_494 : Int), .val (t_498.x1 : Str), .val (t_498.x2 : Str), .val (t_498.x3 : (Tup Str)), .any] : List Slot))) (mt := (some (!decide (t_498.x2 = ("not" : Str))))) (dt_c1P (f := fun (x : Str) (y : Str) => some (!decide (x = y))) cmp_neS (de_var 8 rfl rfl (by first | exact Or.inl rfl | exact Or.inr (Or.inl rfl) | exact Or.inr (Or.inr rfl))) de_str) (dsn_setItem 3 rfl rfl (by first | exact Or.inl rfl | exact Or.inr (Or.inl rfl) | exact Or.inr (Or.inr rfl)) (de_trp (m1 := (some t_498.x1)) (m2 := (((some ([("and" : Str), ("or" : Str), ("xor" : Str)] : List Str))).bind fun v_502 => ((((((atI digits_403 (15 : Int))).bind fun v_499 => some v_499)).bind fun v_500 => ((some (3 : Int))).bind fun v_501 => (modI v_500 v_501))).bind fun v_503 => (atI v_502 v_503))) (m3 := (some t_498.x3)) (de_var 7 rfl rfl (by first | exact Or.inl rfl | exact Or.inr (Or.inl rfl) | exact Or.inr (Or.inr rfl))) (de_ixL (m := (some ([("and" : Str), ("or" : Str), ("xor" : Str)] : List Str))) (n := (((((atI digits_403 (15 : Int))).bind fun v_499 => some v_499)).bind fun v_500 => ((some (3 : Int))).bind fun v_501 => (modI v_500 v_501))) (DeN.l (dn_lstP (di_consP de_str (di_consP de_str (di_consP de_str di_nil))))) (de_mod (ma := (((atI digits_403 (15 : Int))).bind fun v_499 => some v_499)) (mb := (some (3 : Int))) (de_intI (m := (atI digits_403 (15 : Int))) T.int (de_ixLP (De.l (de_var 2 rfl rfl (by first | exact Or.inl rfl | exact Or.inr (Or.inl rfl) | exact Or.inr (Or.inr rfl)))) de_int)) de_int)) (de_var 9 rfl rfl (by first | exact Or.inl rfl | exact Or.inr (Or.inl rfl) | exact Or.inr (Or.inr rfl)))) (de_var 6 rfl rfl (by first | exact Or.inl rfl | exact Or.inr (Or.inl rfl) | exact Or.inr (Or.inr rfl))) (fun gates_510 => (dsn_end (s := gates_510) (by exact (.same (.same (.same (.same (.any (.any (.same (.same (.same (.same (.any .nil)))))))))))))) (k := fun gates_510 => (.nx gates_510))) (dsn_end (s := s_488) (by exact (.same (.same (.same (.same (.any (.any (.same (.same (.same (.same (.any .nil))))))))))))) (fun s_513 => (dsn_end (s := s_513) (by exact (.same (.same (.same (.same (.any (.any (.any (.any (.any (.any (.any .nil))))))))))))))))))) (dsn_end (s := s_488) (by exact (.same (.same (.same (.same (.any (.any (.any (.any (.any (.any (.any .nil))))))))))))) (fun s_515 => (dsn_freeze 3 rfl (dsn_ret (m := (some (Tri.mk p_circuit.x1 s_515 p_circuit.x3))) (dn_tri (m1 := (some p_circuit.x1)) (m2 := (some s_515)) (m3 := (some p_circuit.x3)) (by exact (de_tri1 (m := (some p_circuit)) (de_var 0 rfl rfl (by first | exact Or.inl rfl | exact Or.inr (Or.inl rfl) | exact Or.inr (Or.inr rfl))))) (by exact (de_var 3 rfl rfl (by first | exact Or.inl rfl | exact Or.inr (Or.inl rfl) | exact Or.inr (Or.inr rfl)))) (by exact (de_tri3 (m := (some p_circuit)) (de_var 0 rfl rfl (by first | exact Or.inl rfl | exact Or.inr (Or.inl rfl) | exact Or.inr (Or.inr rfl))))))))))))))))
theorem g_law_otherwise (T : Tx K mg C fI fdI G fG fdG) : GdN P w K mg base 2 "_law_otherwise" (fun p : (Tri (List Str) (List (Trp Str Str (Tup Str))) (List Str)) × Int × Unit => m_law_otherwise p.1 p.2.1) := T.law_otherwise.gdN sc_law_otherwise (by decide) (fun _ => rfl) (b_law_otherwise T)

theorem sc_ciinit : FnScope ["self", "inputs", "gates", "outputs"] ["self", "inputs", "gates", "outputs"] (defScope s_ciinit) := ⟨rfl, rfl, rfl, by decide +kernel, rfl, by decide +kernel, by decide +kernel⟩
def fl_ciinit (G : Addr) (p_inputs : (List Str)) (p_gates : (List (Trp Str Str (Tup Str)))) (p_outputs : (List Str)) : Fl (CirD G) Unit Unit := Fl.bindO (some p_inputs) fun y1 => Fl.bindO (some p_gates) fun y2 => Fl.bindO (some p_outputs) fun y3 => .nx (⟨y1, y2, y3⟩ : (CirD G))
theorem b_ciinit (T : Tx K mg C fI fdI G fG fdG) (q : (List Str) × (List (Trp Str Str (Tup Str))) × (List Str) × Unit) (y : Addr) : DeS (ctOf P w K mg base 0 ["self", "inputs", "gates", "outputs"] (defScope s_ciinit)) (.ins G y [] :: (Pk.sl q ++ List.replicate (4 - (Pk.sl q).length - 1) .any)) (defBody s_ciinit) (fun s : (CirD G) => .ins G y (fci_fields s) :: List.replicate 3 .any) (fun _ : Unit => []) (fl_ciinit G q.1 q.2.1 q.2.2.1) := by
  obtain ⟨p_inputs, p_gates, p_outputs, _⟩ := q
  unfold fl_ciinit
  refine ds_fld (m := (some p_inputs)) (l := []) 0 rfl rfl (Or.inl rfl) T.clsCi T.noCi_inputs (Nat.le_of_ble_eq_true rfl) (by dsimp only [List.map]; decide) (by exact (DeN.de (dn_list (m := (some p_inputs)) T.list (De.l (de_var 1 rfl rfl (by first | exact Or.inl rfl | exact Or.inr (Or.inl rfl) | exact Or.inr (Or.inr rfl))))))) (fun y1 => ?_) (fun _ _ => rfl)
  refine ds_fld (m := (some p_gates)) (l := [("inputs", .val y1)]) 0 rfl rfl (Or.inl rfl) T.clsCi T.noCi_gates (Nat.le_of_ble_eq_true rfl) (by dsimp only [List.map]; decide) (by exact (DeN.de (dn_list (m := (some p_gates)) T.list (De.l (de_var 2 rfl rfl (by first | exact Or.inl rfl | exact Or.inr (Or.inl rfl) | exact Or.inr (Or.inr rfl))))))) (fun y2 => ?_) (fun _ _ => rfl)
  refine ds_fld (m := (some p_outputs)) (l := [("inputs", .val y1), ("gates", .val y2)]) 0 rfl rfl (Or.inl rfl) T.clsCi T.noCi_outputs (Nat.le_of_ble_eq_true rfl) (by dsimp only [List.map]; decide) (by exact (DeN.de (dn_list (m := (some p_outputs)) T.list (De.l (de_var 3 rfl rfl (by first | exact Or.inl rfl | exact Or.inr (Or.inl rfl) | exact Or.inr (Or.inr rfl))))))) (fun y3 => ?_) (fun _ _ => rfl)
  exact ds_end (s := (⟨y1, y2, y3⟩ : (CirD G))) (.same (.any (.any (.any .nil))))
def m_circuit (G : Addr) (p_inputs : (List Str)) (p_gates : (List (Trp Str Str (Tup Str)))) (p_outputs : (List Str)) : Option (CirD G) := initG id (fl_ciinit G p_inputs p_gates p_outputs)
theorem g_circuit (T : Tx K mg C fI fdI G fG fdG) : Gk P w K mg base 1 "Circuit" G (fci_fields (G := G)) (fun q : (List Str) × (List (Trp Str Str (Tup Str))) × (List Str) × Unit => m_circuit G q.1 q.2.1 q.2.2.1) :=
  ⟨fG, fdG, _, init_okG (P := P) (w := w) (mg := mg) (base := base) (C := G) (fl := fci_fields) (k := 0) (mk := fun y s => .ins G y (fci_fields s) :: List.replicate 3 .any) (lk := fun _ : Unit => []) (m := fun q : (List Str) × (List (Trp Str Str (Tup Str))) × (List Str) × Unit => fl_ciinit G q.1 q.2.1 q.2.2.1) (r := id) T.fInitCi sc_ciinit (by decide) (fun _ => rfl) (fun _ _ => rfl) (fun q y => b_ciinit T q y), T.gcCi, T.mkCi, T.bindsCi⟩

theorem sc_law : FnScope ["script", "inputs", "names", "circuit", "other", "pair", "answer", "points", "here", "there", "at", "each", "point", "k", "one"] ["script"] (defScope s_law) := ⟨rfl, rfl, rfl, by decide +kernel, rfl, by decide +kernel, by decide +kernel⟩
def fl_law (C G : Addr) (p_script : (List Int)) : Fl Unit Unit Bool := (Fl.bindO (((some (1 : Int))).bind fun v_522 => ((((((m_law_cell p_script (0 : Int))).bind fun v_519 => some v_519)).bind fun v_520 => ((some (5 : Int))).bind fun v_521 => (modI v_520 v_521))).bind fun v_523 => some (v_522 + v_523)) fun inputs_518 => (Fl.bindO (((m_law_cell p_script (2 : Int))).bind fun v_525 => (m_law_gate_names v_525)) fun names_524 => (Fl.bindO (((m_law_cell p_script (1 : Int))).bind fun v_527 => ((some names_524)).bind fun v_528 => ((some inputs_518)).bind fun v_529 => (m_law_circuit v_527 v_528 v_529)) fun circuit_526 => (Fl.bindO (((some circuit_526)).bind fun v_531 => ((m_law_cell p_script (3 : Int))).bind fun v_532 => (m_law_otherwise v_531 v_532)) fun other_530 => (Fl.bindO (((((((m_law_cell p_script (4 : Int))).bind fun v_533 => some v_533)).bind fun v_534 => ((some (5 : Int))).bind fun v_535 => (modI v_534 v_535))).bind fun v_536 => ((some (1 : Int))).bind fun v_537 => some (decide (v_536 = v_537))) fun v_548 => Fl.bind (if v_548 = true then ((Fl.bindO (((m_law_cell p_script (5 : Int))).bind fun v_539 => ((some names_524)).bind fun v_540 => ((some inputs_518)).bind fun v_541 => (m_law_circuit v_539 v_540 v_541)) fun other_538 => (Fl.bindO (((rangeI (circuit_526.x3.length : Int))).bind fun xs_545 => (capI xs_545).bind fun xs_545 => mapO (fun (i_542 : Int) => (((some other_538.x3)).bind fun v_543 => ((modI i_542 (other_538.x3.length : Int))).bind fun v_544 => (atI v_543 v_544))) xs_545) fun y_546 => (fun other_547 => (.nx other_547)) (Tri.mk other_538.x1 other_538.x2 y_546))) : Fl ((Tri (List Str) (List (Trp Str Str (Tup Str))) (List Str))) Unit Bool) else (.nx other_530)) fun s_549 => (Fl.bindO (((some ([circuit_526, s_549] : List (Tri (List Str) (List (Trp Str Str (Tup Str))) (List Str))))).bind fun xs_553 => (capI xs_553).bind fun xs_553 => mapO (fun (i_552 : (Tri (List Str) (List (Trp Str Str (Tup Str))) (List Str))) => (m_circuit G i_552.x1 i_552.x2 i_552.x3)) xs_553) fun pair_551 => (Fl.bindO (((atI pair_551 (0 : Int))).bind fun v_555 => ((atI pair_551 (1 : Int))).bind fun v_556 => (m_compare_circuits (C := C) v_555 v_556)) fun answer_554 => (Fl.bindO (m_law_points (2 : Int) inputs_518) fun points_557 => (Fl.bindO (((some points_557)).bind fun xs_560 => (capI xs_560).bind fun xs_560 => mapO (fun (i_559 : (Tup Int)) => (m_law_outputs circuit_526 i_559)) xs_560) fun here_558 => (Fl.bindO (((some points_557)).bind fun xs_563 => (capI xs_563).bind fun xs_563 => mapO (fun (i_562 : (Tup Int)) => (m_law_outputs s_549 i_562)) xs_563) fun there_561 => (Fl.bindO (eqI here_558 there_561) fun v_582 => Fl.bind (if v_582 = true then ((Fl.bindO (orO (((some true)).bind fun v_564 => some (!v_564)) (orO (some (!decide ((((Sum.elim (fun _ => 2) (fun _ => 3)) answer_554 : Nat) : Int) = (2 : Int)))) (some (!decide (((Sum.elim (fun x : (Str × (List (Tup ((Tup Int) × Int)))) => x.1) (fun x : (Trp Str (Tup Int) Int) => x.x1)) answer_554) = ("same" : Str)))))) fun v_566 => Fl.bind (if v_566 = true then ((Fl.bindO (some false) fun r_565 => .rt r_565) : Fl Unit Unit Bool) else (.nx ())) fun s_567 => (Fl.bindO (((((((((((some answer_554)).bind Sum.getLeft?)).map (·.2))).bind fun xs_569 => (capI xs_569).bind fun xs_569 => mapO (fun (i_568 : (Tup ((Tup Int) × Int))) => (m_law_is_polynomial (2 : Int) inputs_518 i_568)) xs_569)).bind fun v_570 => some (v_570.all id))).bind fun v_571 => some (!v_571)) fun v_573 => Fl.bind (if v_573 = true then ((Fl.bindO (some false) fun r_572 => .rt r_572) : Fl Unit Unit Bool) else (.nx ())) fun s_574 => (Fl.bindO (((((some points_557)).bind fun xs_578 => (capI xs_578).bind fun xs_578 => mapO (fun (i_575 : (Tup Int)) => (((((((some answer_554)).bind Sum.getLeft?)).map (·.2))).bind fun xs_577 => (capI xs_577).bind fun xs_577 => mapO (fun (i_576 : (Tup ((Tup Int) × Int))) => (m_law_value (2 : Int) i_576 i_575)) xs_577)) xs_578)).bind fun v_579 => ((some here_558)).bind fun v_580 => (eqI v_579 v_580)) fun r_581 => .rt r_581))) : Fl Unit Unit Bool) else (.nx ())) fun s_583 => (Fl.bindO (orO (((some true)).bind fun v_584 => some (!v_584)) (orO (some (!decide ((((Sum.elim (fun _ => 2) (fun _ => 3)) answer_554 : Nat) : Int) = (3 : Int)))) (orO (some (!decide (((Sum.elim (fun x : (Str × (List (Tup ((Tup Int) × Int)))) => x.1) (fun x : (Trp Str (Tup Int) Int) => x.x1)) answer_554) = ("unlike" : Str)))) (((((((some answer_554)).bind Sum.getRight?)).map (·.x2))).bind fun v_585 => ((some points_557)).bind fun v_586 => (ninD v_585 v_586))))) fun v_588 => Fl.bind (if v_588 = true then ((Fl.bindO (some false) fun r_587 => .rt r_587) : Fl Unit Unit Bool) else (.nx ())) fun s_589 => (Fl.bindO (((chO (fun a_590 b_591 => some (decide (a_590 ≤ b_591))) (fun a_590 b_591 => some (decide (a_590 < b_591))) (some (0 : Int)) (((((some answer_554)).bind Sum.getRight?)).map (·.x3)) (some (circuit_526.x3.length : Int)))).bind fun v_592 => some (!v_592)) fun v_594 => Fl.bind (if v_594 = true then ((Fl.bindO (some false) fun r_593 => .rt r_593) : Fl Unit Unit Bool) else (.nx ())) fun s_595 => (Fl.bindO (((some points_557)).bind fun v_597 => ((((((some answer_554)).bind Sum.getRight?)).map (·.x2))).bind fun v_598 => (idxD v_597 v_598)) fun at_596 => (Fl.bindO (((((atI here_558 at_596)).bind fun v_599 => ((((((some answer_554)).bind Sum.getRight?)).map (·.x3))).bind fun v_600 => (atI v_599 v_600))).bind fun v_603 => ((((atI there_561 at_596)).bind fun v_601 => ((((((some answer_554)).bind Sum.getRight?)).map (·.x3))).bind fun v_602 => (atI v_601 v_602))).bind fun v_604 => some (!decide (v_603 = v_604))) fun r_605 => .rt r_605)))))))))))))))
def m_law (C G : Addr) (p_script : (List Int)) : Option Bool := (fl_law C G p_script).fin none
theorem b_law (T : Tx K mg C fI fdI G fG fdG) (p : (List Int) × Unit) : DeS (ctOf P w K mg base 6 ["script", "inputs", "names", "circuit", "other", "pair", "answer", "points", "here", "there", "at", "each", "point", "k", "one"] (defScope s_law)) (Pk.sl p ++ List.replicate (15 - (Pk.sl p).length) .any) (defBody s_law) (fun _ : Unit => List.replicate 15 .any) (fun _ : Unit => []) (fl_law C G p.1) := by
  obtain ⟨p_script, _⟩ := p
  unfold fl_law
  exact (ds_set (i := 1) (as_e (m := (((some (1 : Int))).bind fun v_522 => ((((((m_law_cell p_script (0 : Int))).bind fun v_519 => some v_519)).bind fun v_520 => ((some (5 : Int))).bind fun v_521 => (modI v_520 v_521))).bind fun v_523 => some (v_522 + v_523))) 1 (de_add (ma := (some (1 : Int))) (mb := (((((m_law_cell p_script (0 : Int))).bind fun v_519 => some v_519)).bind fun v_520 => ((some (5 : Int))).bind fun v_521 => (modI v_520 v_521))) de_int (de_mod (ma := (((m_law_cell p_script (0 : Int))).bind fun v_519 => some v_519)) (mb := (some (5 : Int))) (de_intI (m := (m_law_cell p_script (0 : Int))) T.int (de_call2P (a1 := p_script) (a2 := (0 : Int)) (f := fun p : (List Int) × Int × Unit => m_law_cell p.1 p.2.1) ((g_law_cell T).df) (de_var 0 rfl rfl (by first | exact Or.inl rfl | exact Or.inr (Or.inl rfl) | exact Or.inr (Or.inr rfl))) de_int)) de_int)) sc_law.nd rfl (by first | exact Or.inl rfl | exact Or.inr rfl) (by first | exact Or.inl rfl | exact Or.inr rfl) (fun _ _ => rfl)) (fun inputs_518 => (ds_set (i := 2) (as_e (m := (((m_law_cell p_script (2 : Int))).bind fun v_525 => (m_law_gate_names v_525))) 2 (de_call1 (m1 := (m_law_cell p_script (2 : Int))) (f := fun p : Int × Unit => m_law_gate_names p.1) ((g_law_gate_names T).df) (de_call2P (a1 := p_script) (a2 := (2 : Int)) (f := fun p : (List Int) × Int × Unit => m_law_cell p.1 p.2.1) ((g_law_cell T).df) (de_var 0 rfl rfl (by first | exact Or.inl rfl | exact Or.inr (Or.inl rfl) | exact Or.inr (Or.inr rfl))) de_int)) sc_law.nd rfl (by first | exact Or.inl rfl | exact Or.inr rfl) (by first | exact Or.inl rfl | exact Or.inr rfl) (fun _ _ => rfl)) (fun names_524 => (ds_set (i := 3) (as_e (m := (((m_law_cell p_script (1 : Int))).bind fun v_527 => ((some names_524)).bind fun v_528 => ((some inputs_518)).bind fun v_529 => (m_law_circuit v_527 v_528 v_529))) 3 (DeN.deT (dn_call3 (m1 := (m_law_cell p_script (1 : Int))) (m2 := (some names_524)) (m3 := (some inputs_518)) (f := fun p : Int × (List Str) × Int × Unit => m_law_circuit p.1 p.2.1 p.2.2.1) ((g_law_circuit T).df) (de_call2P (a1 := p_script) (a2 := (1 : Int)) (f := fun p : (List Int) × Int × Unit => m_law_cell p.1 p.2.1) ((g_law_cell T).df) (de_var 0 rfl rfl (by first | exact Or.inl rfl | exact Or.inr (Or.inl rfl) | exact Or.inr (Or.inr rfl))) de_int) (de_var 2 rfl rfl (by first | exact Or.inl rfl | exact Or.inr (Or.inl rfl) | exact Or.inr (Or.inr rfl))) (de_var 1 rfl rfl (by first | exact Or.inl rfl | exact Or.inr (Or.inl rfl) | exact Or.inr (Or.inr rfl))))) sc_law.nd rfl (by first | exact Or.inl rfl | exact Or.inr rfl) (by first | exact Or.inl rfl | exact Or.inr rfl) (fun _ _ => rfl)) (fun circuit_526 => (ds_own (i := 4) (as_n 4 (dn_call2 (m1 := (some circuit_526)) (m2 := (m_law_cell p_script (3 : Int))) (f := fun p : (Tri (List Str) (List (Trp Str Str (Tup Str))) (List Str)) × Int × Unit => m_law_otherwise p.1 p.2.1) ((g_law_otherwise T).df) (de_var 3 rfl rfl (by first | exact Or.inl rfl | exact Or.inr (Or.inl rfl) | exact Or.inr (Or.inr rfl))) (de_call2P (a1 := p_script) (a2 := (3 : Int)) (f := fun p : (List Int) × Int × Unit => m_law_cell p.1 p.2.1) ((g_law_cell T).df) (de_var 0 rfl rfl (by first | exact Or.inl rfl | exact Or.inr (Or.inl rfl) | exact Or.inr (Or.inr rfl))) de_int)) sc_law.nd rfl (by first | exact Or.inl rfl | exact Or.inr rfl) (by first | exact Or.inl rfl | exact Or.inr rfl) (fun _ _ => rfl)) (fun other_530 => (ds_if (jk := (fun (s : ((Tri (List Str) (List (Trp Str Str (Tup Str))) (List Str)))) => ([.val (p_script : (List Int)), .val (inputs_518 : Int), .val (names_524 : (List Str)), .val (circuit_526 : (Tri (List Str) (List (Trp Str Str (Tup Str))) (List Str))), .own (s : (Tri (List Str) (List (Trp Str Str (Tup Str))) (List Str))), .any, .any, .any, .any, .any, .any, .any, .any, .any, .any] : List Slot))) (mt := (((((((m_law_cell p_script (4 : Int))).bind fun v_533 => some v_533)).bind fun v_534 => ((some (5 : Int))).bind fun v_535 => (modI v_534 v_535))).bind fun v_536 => ((some (1 : Int))).bind fun v_537 => some (decide (v_536 = v_537)))) (dt_c1 (ma := (((((m_law_cell p_script (4 : Int))).bind fun v_533 => some v_533)).bind fun v_534 => ((some (5 : Int))).bind fun v_535 => (modI v_534 v_535))) (mb := (some (1 : Int))) (f := fun (x : Int) (y : Int) => some (decide (x = y))) cmp_eqI (by exact (de_mod (ma := (((m_law_cell p_script (4 : Int))).bind fun v_533 => some v_533)) (mb := (some (5 : Int))) (de_intI (m := (m_law_cell p_script (4 : Int))) T.int (de_call2P (a1 := p_script) (a2 := (4 : Int)) (f := fun p : (List Int) × Int × Unit => m_law_cell p.1 p.2.1) ((g_law_cell T).df) (de_var 0 rfl rfl (by first | exact Or.inl rfl | exact Or.inr (Or.inl rfl) | exact Or.inr (Or.inr rfl))) de_int)) de_int)) (by exact de_int)) (ds_own (i := 4) (as_n 4 (dn_call3 (m1 := (m_law_cell p_script (5 : Int))) (m2 := (some names_524)) (m3 := (some inputs_518)) (f := fun p : Int × (List Str) × Int × Unit => m_law_circuit p.1 p.2.1 p.2.2.1) ((g_law_circuit T).df) (de_call2P (a1 := p_script) (a2 := (5 : Int)) (f := fun p : (List Int) × Int × Unit => m_law_cell p.1 p.2.1) ((g_law_cell T).df) (de_var 0 rfl rfl (by first | exact Or.inl rfl | exact Or.inr (Or.inl rfl) | exact Or.inr (Or.inr rfl))) de_int) (de_var 2 rfl rfl (by first | exact Or.inl rfl | exact Or.inr (Or.inl rfl) | exact Or.inr (Or.inr rfl))) (de_var 1 rfl rfl (by first | exact Or.inl rfl | exact Or.inr (Or.inl rfl) | exact Or.inr (Or.inr rfl)))) sc_law.nd rfl (by first | exact Or.inl rfl | exact Or.inr rfl) (by first | exact Or.inl rfl | exact Or.inr rfl) (fun _ _ => rfl)) (fun other_538 => (ds_setTri3 4 (m := (((rangeI (circuit_526.x3.length : Int))).bind fun xs_545 => (capI xs_545).bind fun xs_545 => mapO (fun (i_542 : Int) => (((some other_538.x3)).bind fun v_543 => ((modI i_542 (other_538.x3.length : Int))).bind fun v_544 => (atI v_543 v_544))) xs_545)) rfl rfl (by first | exact Or.inl rfl | exact Or.inr (Or.inl rfl) | exact Or.inr (Or.inr rfl)) (by exact (DeN.de (dn_comp (own := [("k", 13)]) sc_law.nd (di_rangeP  T.range (de_lenLP  T.len (De.l (de_tri3 (m := (some circuit_526)) (de_var 3 rfl rfl (by first | exact Or.inl rfl | exact Or.inr (Or.inl rfl) | exact Or.inr (Or.inr rfl))))))) (blkOk_by (by dsimp only [ctOf, Ct.blk]; decide +kernel)) (dg_name 13 sc_law.nd rfl (by first | exact Or.inl rfl | exact Or.inr rfl) (by first | exact Or.inl rfl | exact Or.inr rfl)) (by decide) (fun i_542 => (de_ixL (m := (some other_538.x3)) (n := (modI i_542 (other_538.x3.length : Int))) (De.l (de_tri3O (x := other_538) 4 rfl rfl (by first | exact Or.inl rfl | exact Or.inr (Or.inl rfl) | exact Or.inr (Or.inr rfl)))) (de_modP (de_intIP T.int (de_var 13 rfl rfl (by first | exact Or.inl rfl | exact Or.inr (Or.inl rfl) | exact Or.inr (Or.inr rfl)))) (de_lenLP  T.len (De.l (de_tri3O (x := other_538) 4 rfl rfl (by first | exact Or.inl rfl | exact Or.inr (Or.inl rfl) | exact Or.inr (Or.inr rfl))))))))))) (fun other_547 => (ds_end (s := other_547) (.same (.same (.same (.same (.same (.any (.any (.any (.any (.any (.any (.any (.any (.any (.any .nil))))))))))))))))) (k := fun other_547 => (.nx other_547))))) (ds_end (s := other_530) (.same (.same (.same (.same (.same (.any (.any (.any (.any (.any (.any (.any (.any (.any (.any .nil)))))))))))))))) (fun s_549 => (ds_freezeT 4 rfl (by exact (ds_set (i := 5) (AsN.toE (by first | exact (as_comp (own := [("each", 11)]) 5 sc_law.nd rfl rfl rfl (by decide +kernel) (by decide +kernel) (di_list (m := (some ([circuit_526, s_549] : List (Tri (List Str) (List (Trp Str Str (Tup Str))) (List Str))))) (DeN.de (dn_lstP (di_consP (de_var 3 rfl rfl (by first | exact Or.inl rfl | exact Or.inr (Or.inl rfl) | exact Or.inr (Or.inr rfl))) (di_consP (de_var 4 rfl rfl (by first | exact Or.inl rfl | exact Or.inr (Or.inl rfl) | exact Or.inr (Or.inr rfl))) di_nil))))) (blkOk_by (by dsimp only [ctOf, Ct.blk]; decide +kernel)) (dg_name 11 sc_law.nd rfl (by first | exact Or.inl rfl | exact Or.inr rfl) (by first | exact Or.inl rfl | exact Or.inr rfl)) (by decide) (fun i_552 => (de_make3 (m1 := (some i_552.x1)) (m2 := (some i_552.x2)) (m3 := (some i_552.x3)) (f := fun q : (List Str) × (List (Trp Str Str (Tup Str))) × (List Str) × Unit => m_circuit G q.1 q.2.1 q.2.2.1) ((g_circuit T).md) circuit_rep (DeN.de (dn_list (m := (some i_552.x1)) T.list (De.l (de_tri1 (m := (some i_552)) (de_var 11 rfl rfl (by first | exact Or.inl rfl | exact Or.inr (Or.inl rfl) | exact Or.inr (Or.inr rfl))))))) (DeN.de (dn_list (m := (some i_552.x2)) T.list (De.l (de_tri2 (m := (some i_552)) (de_var 11 rfl rfl (by first | exact Or.inl rfl | exact Or.inr (Or.inl rfl) | exact Or.inr (Or.inr rfl))))))) (DeN.de (dn_list (m := (some i_552.x3)) T.list (De.l (de_tri3 (m := (some i_552)) (de_var 11 rfl rfl (by first | exact Or.inl rfl | exact Or.inr (Or.inl rfl) | exact Or.inr (Or.inr rfl)))))))))) | exact (as_n 5 (dn_comp (own := [("each", 11)]) sc_law.nd (di_list (m := (some ([circuit_526, s_549] : List (Tri (List Str) (List (Trp Str Str (Tup Str))) (List Str))))) (DeN.de (dn_lstP (di_consP (de_var 3 rfl rfl (by first | exact Or.inl rfl | exact Or.inr (Or.inl rfl) | exact Or.inr (Or.inr rfl))) (di_consP (de_var 4 rfl rfl (by first | exact Or.inl rfl | exact Or.inr (Or.inl rfl) | exact Or.inr (Or.inr rfl))) di_nil))))) (blkOk_by (by dsimp only [ctOf, Ct.blk]; decide +kernel)) (dg_name 11 sc_law.nd rfl (by first | exact Or.inl rfl | exact Or.inr rfl) (by first | exact Or.inl rfl | exact Or.inr rfl)) (by decide) (fun i_552 => (de_make3 (m1 := (some i_552.x1)) (m2 := (some i_552.x2)) (m3 := (some i_552.x3)) (f := fun q : (List Str) × (List (Trp Str Str (Tup Str))) × (List Str) × Unit => m_circuit G q.1 q.2.1 q.2.2.1) ((g_circuit T).md) circuit_rep (DeN.de (dn_list (m := (some i_552.x1)) T.list (De.l (de_tri1 (m := (some i_552)) (de_var 11 rfl rfl (by first | exact Or.inl rfl | exact Or.inr (Or.inl rfl) | exact Or.inr (Or.inr rfl))))))) (DeN.de (dn_list (m := (some i_552.x2)) T.list (De.l (de_tri2 (m := (some i_552)) (de_var 11 rfl rfl (by first | exact Or.inl rfl | exact Or.inr (Or.inl rfl) | exact Or.inr (Or.inr rfl))))))) (DeN.de (dn_list (m := (some i_552.x3)) T.list (De.l (de_tri3 (m := (some i_552)) (de_var 11 rfl rfl (by first | exact Or.inl rfl | exact Or.inr (Or.inl rfl) | exact Or.inr (Or.inr rfl)))))))))) sc_law.nd rfl (by first | exact Or.inl rfl | exact Or.inr rfl) (by first | exact Or.inl rfl | exact Or.inr rfl) (sw_cell rfl)))) (fun pair_551 => (ds_set (i := 6) (as_e (m := (((atI pair_551 (0 : Int))).bind fun v_555 => ((atI pair_551 (1 : Int))).bind fun v_556 => (m_compare_circuits (C := C) v_555 v_556))) 6 (de_call2 (m1 := (atI pair_551 (0 : Int))) (m2 := (atI pair_551 (1 : Int))) (f := fun p : (CirD G) × (CirD G) × Unit => m_compare_circuits (C := C) p.1 p.2.1) ((g_compare_circuits T).df) (de_ixLP (De.l (de_var 5 rfl rfl (by first | exact Or.inl rfl | exact Or.inr (Or.inl rfl) | exact Or.inr (Or.inr rfl)))) de_int) (de_ixLP (De.l (de_var 5 rfl rfl (by first | exact Or.inl rfl | exact Or.inr (Or.inl rfl) | exact Or.inr (Or.inr rfl)))) de_int)) sc_law.nd rfl (by first | exact Or.inl rfl | exact Or.inr rfl) (by first | exact Or.inl rfl | exact Or.inr rfl) (fun _ _ => rfl)) (fun answer_554 => (ds_set (i := 7) (as_e (m := (m_law_points (2 : Int) inputs_518)) 7 (de_call2P (a1 := (2 : Int)) (a2 := inputs_518) (f := fun p : Int × Int × Unit => m_law_points p.1 p.2.1) ((g_law_points T).df) de_int (de_var 1 rfl rfl (by first | exact Or.inl rfl | exact Or.inr (Or.inl rfl) | exact Or.inr (Or.inr rfl)))) sc_law.nd rfl (by first | exact Or.inl rfl | exact Or.inr rfl) (by first | exact Or.inl rfl | exact Or.inr rfl) (fun _ _ => rfl)) (fun points_557 => (ds_set (i := 8) (AsN.toE (by first | exact (as_comp (own := [("point", 12)]) 8 sc_law.nd rfl rfl rfl (by decide +kernel) (by decide +kernel) (di_list (m := (some points_557)) (de_var 7 rfl rfl (by first | exact Or.inl rfl | exact Or.inr (Or.inl rfl) | exact Or.inr (Or.inr rfl)))) (blkOk_by (by dsimp only [ctOf, Ct.blk]; decide +kernel)) (dg_name 12 sc_law.nd rfl (by first | exact Or.inl rfl | exact Or.inr rfl) (by first | exact Or.inl rfl | exact Or.inr rfl)) (by decide) (fun i_559 => (de_call2P (a1 := circuit_526) (a2 := i_559) (f := fun p : (Tri (List Str) (List (Trp Str Str (Tup Str))) (List Str)) × (Tup Int) × Unit => m_law_outputs p.1 p.2.1) ((g_law_outputs T).df) (de_var 3 rfl rfl (by first | exact Or.inl rfl | exact Or.inr (Or.inl rfl) | exact Or.inr (Or.inr rfl))) (de_var 12 rfl rfl (by first | exact Or.inl rfl | exact Or.inr (Or.inl rfl) | exact Or.inr (Or.inr rfl)))))) | exact (as_n 8 (dn_comp (own := [("point", 12)]) sc_law.nd (di_list (m := (some points_557)) (de_var 7 rfl rfl (by first | exact Or.inl rfl | exact Or.inr (Or.inl rfl) | exact Or.inr (Or.inr rfl)))) (blkOk_by (by dsimp only [ctOf, Ct.blk]; decide +kernel)) (dg_name 12 sc_law.nd rfl (by first | exact Or.inl rfl | exact Or.inr rfl) (by first | exact Or.inl rfl | exact Or.inr rfl)) (by decide) (fun i_559 => (de_call2P (a1 := circuit_526) (a2 := i_559) (f := fun p : (Tri (List Str) (List (Trp Str Str (Tup Str))) (List Str)) × (Tup Int) × Unit => m_law_outputs p.1 p.2.1) ((g_law_outputs T).df) (de_var 3 rfl rfl (by first | exact Or.inl rfl | exact Or.inr (Or.inl rfl) | exact Or.inr (Or.inr rfl))) (de_var 12 rfl rfl (by first | exact Or.inl rfl | exact Or.inr (Or.inl rfl) | exact Or.inr (Or.inr rfl)))))) sc_law.nd rfl (by first | exact Or.inl rfl | exact Or.inr rfl) (by first | exact Or.inl rfl | exact Or.inr rfl) (sw_cell rfl)))) (fun here_558 => (ds_set (i := 9) (AsN.toE (by first | exact (as_comp (own := [("point", 12)]) 9 sc_law.nd rfl rfl rfl (by decide +kernel) (by decide +kernel) (di_list (m := (some points_557)) (de_var 7 rfl rfl (by first | exact Or.inl rfl | exact Or.inr (Or.inl rfl) | exact Or.inr (Or.inr rfl)))) (blkOk_by (by dsimp only [ctOf, Ct.blk]; decide +kernel)) (dg_name 12 sc_law.nd rfl (by first | exact Or.inl rfl | exact Or.inr rfl) (by first | exact Or.inl rfl | exact Or.inr rfl)) (by decide) (fun i_562 => (de_call2P (a1 := s_549) (a2 := i_562) (f := fun p : (Tri (List Str) (List (Trp Str Str (Tup Str))) (List Str)) × (Tup Int) × Unit => m_law_outputs p.1 p.2.1) ((g_law_outputs T).df) (de_var 4 rfl rfl (by first | exact Or.inl rfl | exact Or.inr (Or.inl rfl) | exact Or.inr (Or.inr rfl))) (de_var 12 rfl rfl (by first | exact Or.inl rfl | exact Or.inr (Or.inl rfl) | exact Or.inr (Or.inr rfl)))))) | exact (as_n 9 (dn_comp (own := [("point", 12)]) sc_law.nd (di_list (m := (some points_557)) (de_var 7 rfl rfl (by first | exact Or.inl rfl | exact Or.inr (Or.inl rfl) | exact Or.inr (Or.inr rfl)))) (blkOk_by (by dsimp only [ctOf, Ct.blk]; decide +kernel)) (dg_name 12 sc_law.nd rfl (by first | exact Or.inl rfl | exact Or.inr rfl) (by first | exact Or.inl rfl | exact Or.inr rfl)) (by decide) (fun i_562 => (de_call2P (a1 := s_549) (a2 := i_562) (f := fun p : (Tri (List Str) (List (Trp Str Str (Tup Str))) (List Str)) × (Tup Int) × Unit => m_law_outputs p.1 p.2.1) ((g_law_outputs T).df) (de_var 4 rfl rfl (by first | exact Or.inl rfl | exact Or.inr (Or.inl rfl) | exact Or.inr (Or.inr rfl))) (de_var 12 rfl rfl (by first | exact Or.inl rfl | exact Or.inr (Or.inl rfl) | exact Or.inr (Or.inr rfl)))))) sc_law.nd rfl (by first | exact Or.inl rfl | exact Or.inr rfl) (by first | exact Or.inl rfl | exact Or.inr rfl) (sw_cell rfl)))) (fun there_561 => (ds_if (jk := (fun (s : Unit) => ([.val (p_script : (List Int)), .val (inputs_518 : Int), .val (names_524 : (List Str)), .val (circuit_526 : (Tri (List Str) (List (Trp Str Str (Tup Str))) (List Str))), .val (s_549 : (Tri (List Str) (List (Trp Str Str (Tup Str))) (List Str))), .val (pair_551 : (List (CirD G))), .val (answer_554 : ((Str × (List (Tup ((Tup Int) × Int)))) ⊕ (Trp Str (Tup Int) Int))), .val (points_557 : (List (Tup Int))), .val (here_558 : (List (List Int))), .val (there_561 : (List (List Int))), .any, .any, .any, .any, .any] : List Slot))) (mt := (eqI here_558 there_561)) (dt_c1P (f := fun (x : (List (List Int))) (y : (List (List Int))) => (eqI x y)) cmp_eqD (by exact (de_var 8 rfl rfl (by first | exact Or.inl rfl | exact Or.inr (Or.inl rfl) | exact Or.inr (Or.inr rfl)))) (by exact (de_var 9 rfl rfl (by first | exact Or.inl rfl | exact Or.inr (Or.inl rfl) | exact Or.inr (Or.inr rfl))))) (ds_if (jk := (fun (s : Unit) => ([.val (p_script : (List Int)), .val (inputs_518 : Int), .val (names_524 : (List Str)), .val (circuit_526 : (Tri (List Str) (List (Trp Str Str (Tup Str))) (List Str))), .val (s_549 : (Tri (List Str) (List (Trp Str Str (Tup Str))) (List Str))), .val (pair_551 : (List (CirD G))), .val (answer_554 : ((Str × (List (Tup ((Tup Int) × Int)))) ⊕ (Trp Str (Tup Int) Int))), .val (points_557 : (List (Tup Int))), .val (here_558 : (List (List Int))), .val (there_561 : (List (List Int))), .any, .any, .any, .any, .any] : List Slot))) (mt := (orO (((some true)).bind fun v_564 => some (!v_564)) (orO (some (!decide ((((Sum.elim (fun _ => 2) (fun _ => 3)) answer_554 : Nat) : Int) = (2 : Int)))) (some (!decide (((Sum.elim (fun x : (Str × (List (Tup ((Tup Int) × Int)))) => x.1) (fun x : (Trp Str (Tup Int) Int) => x.x1)) answer_554) = ("same" : Str))))))) (DeW.t (dw_or (dt_not (m := (some true)) (dt_of (m := (some true)) (de_isiT (m := (some answer_554)) T.isinstance T.tuple (de_var 6 rfl rfl (by first | exact Or.inl rfl | exact Or.inr (Or.inl rfl) | exact Or.inr (Or.inr rfl)))))) (dw_or (dt_c1P (f := fun (x : Int) (y : Int) => some (!decide (x = y))) cmp_neI (by exact (de_lenT (m := (some answer_554)) T.len (de_var 6 rfl rfl (by first | exact Or.inl rfl | exact Or.inr (Or.inl rfl) | exact Or.inr (Or.inr rfl))))) (by exact de_int)) (dw_or1 (dt_c1P (f := fun (x : Str) (y : Str) => some (!decide (x = y))) cmp_neS (by exact (de_head (m := (some answer_554)) (de_var 6 rfl rfl (by first | exact Or.inl rfl | exact Or.inr (Or.inl rfl) | exact Or.inr (Or.inr rfl))))) (by exact de_str)))))) (by exact (ds_ret de_bl)) (ds_end (s := ()) (.same (.same (.same (.same (.same (.same (.same (.same (.same (.same (.any (.any (.any (.any (.any .nil)))))))))))))))) (fun s_567 => (ds_if (jk := (fun (s : Unit) => ([.val (p_script : (List Int)), .val (inputs_518 : Int), .val (names_524 : (List Str)), .val (circuit_526 : (Tri (List Str) (List (Trp Str Str (Tup Str))) (List Str))), .val (s_549 : (Tri (List Str) (List (Trp Str Str (Tup Str))) (List Str))), .val (pair_551 : (List (CirD G))), .val (answer_554 : ((Str × (List (Tup ((Tup Int) × Int)))) ⊕ (Trp Str (Tup Int) Int))), .val (points_557 : (List (Tup Int))), .val (here_558 : (List (List Int))), .val (there_561 : (List (List Int))), .any, .any, .any, .any, .any] : List Slot))) (mt := (((((((((((some answer_554)).bind Sum.getLeft?)).map (·.2))).bind fun xs_569 => (capI xs_569).bind fun xs_569 => mapO (fun (i_568 : (Tup ((Tup Int) × Int))) => (m_law_is_polynomial (2 : Int) inputs_518 i_568)) xs_569)).bind fun v_570 => some (v_570.all id))).bind fun v_571 => some (!v_571))) (dt_not (m := (((((((((some answer_554)).bind Sum.getLeft?)).map (·.2))).bind fun xs_569 => (capI xs_569).bind fun xs_569 => mapO (fun (i_568 : (Tup ((Tup Int) × Int))) => (m_law_is_polynomial (2 : Int) inputs_518 i_568)) xs_569)).bind fun v_570 => some (v_570.all id))) (dt_of (m := (((((((((some answer_554)).bind Sum.getLeft?)).map (·.2))).bind fun xs_569 => (capI xs_569).bind fun xs_569 => mapO (fun (i_568 : (Tup ((Tup Int) × Int))) => (m_law_is_polynomial (2 : Int) inputs_518 i_568)) xs_569)).bind fun v_570 => some (v_570.all id))) (de_all (m := (((((((some answer_554)).bind Sum.getLeft?)).map (·.2))).bind fun xs_569 => (capI xs_569).bind fun xs_569 => mapO (fun (i_568 : (Tup ((Tup Int) × Int))) => (m_law_is_polynomial (2 : Int) inputs_518 i_568)) xs_569)) T.all (by exact (DeN.l (dn_comp (own := [("one", 14)]) sc_law.nd (di_list (m := (((((some answer_554)).bind Sum.getLeft?)).map (·.2))) (de_snd (m := (((some answer_554)).bind Sum.getLeft?)) (de_outl (m := (some answer_554)) (de_var 6 rfl rfl (by first | exact Or.inl rfl | exact Or.inr (Or.inl rfl) | exact Or.inr (Or.inr rfl)))))) (blkOk_by (by dsimp only [ctOf, Ct.blk]; decide +kernel)) (dg_name 14 sc_law.nd rfl (by first | exact Or.inl rfl | exact Or.inr rfl) (by first | exact Or.inl rfl | exact Or.inr rfl)) (by decide) (fun i_568 => (de_call3P (a1 := (2 : Int)) (a2 := inputs_518) (a3 := i_568) (f := fun p : Int × Int × (Tup ((Tup Int) × Int)) × Unit => m_law_is_polynomial p.1 p.2.1 p.2.2.1) ((g_law_is_polynomial T).df) de_int (de_var 1 rfl rfl (by first | exact Or.inl rfl | exact Or.inr (Or.inl rfl) | exact Or.inr (Or.inr rfl))) (de_var 14 rfl rfl (by first | exact Or.inl rfl | exact Or.inr (Or.inl rfl) | exact Or.inr (Or.inr rfl))))))))))) (by exact (ds_ret de_bl)) (ds_end (s := ()) (.same (.same (.same (.same (.same (.same (.same (.same (.same (.same (.any (.any (.any (.any (.any .nil)))))))))))))))) (fun s_574 => (ds_ret (m := (((((some points_557)).bind fun xs_578 => (capI xs_578).bind fun xs_578 => mapO (fun (i_575 : (Tup Int)) => (((((((some answer_554)).bind Sum.getLeft?)).map (·.2))).bind fun xs_577 => (capI xs_577).bind fun xs_577 => mapO (fun (i_576 : (Tup ((Tup Int) × Int))) => (m_law_value (2 : Int) i_576 i_575)) xs_577)) xs_578)).bind fun v_579 => ((some here_558)).bind fun v_580 => (eqI v_579 v_580))) (de_c (ma := (((some points_557)).bind fun xs_578 => (capI xs_578).bind fun xs_578 => mapO (fun (i_575 : (Tup Int)) => (((((((some answer_554)).bind Sum.getLeft?)).map (·.2))).bind fun xs_577 => (capI xs_577).bind fun xs_577 => mapO (fun (i_576 : (Tup ((Tup Int) × Int))) => (m_law_value (2 : Int) i_576 i_575)) xs_577)) xs_578)) (mb := (some here_558)) (f := fun (x : (List (List Int))) (y : (List (List Int))) => (eqI x y)) cmp_eqD (by exact (DeN.de (dn_comp (own := [("point", 12)]) sc_law.nd (di_list (m := (some points_557)) (de_var 7 rfl rfl (by first | exact Or.inl rfl | exact Or.inr (Or.inl rfl) | exact Or.inr (Or.inr rfl)))) (blkOk_by (by dsimp only [ctOf, Ct.blk]; decide +kernel)) (dg_name 12 sc_law.nd rfl (by first | exact Or.inl rfl | exact Or.inr rfl) (by first | exact Or.inl rfl | exact Or.inr rfl)) (by decide) (fun i_575 => (DeN.de (dn_comp (own := [("one", 14)]) sc_law.nd (di_list (m := (((((some answer_554)).bind Sum.getLeft?)).map (·.2))) (de_snd (m := (((some answer_554)).bind Sum.getLeft?)) (de_outl (m := (some answer_554)) (de_var 6 rfl rfl (by first | exact Or.inl rfl | exact Or.inr (Or.inl rfl) | exact Or.inr (Or.inr rfl)))))) (blkOk_by (by dsimp only [ctOf, Ct.blk]; decide +kernel)) (dg_name 14 sc_law.nd rfl (by first | exact Or.inl rfl | exact Or.inr rfl) (by first | exact Or.inl rfl | exact Or.inr rfl)) (by decide) (fun i_576 => (de_call3P (a1 := (2 : Int)) (a2 := i_576) (a3 := i_575) (f := fun p : Int × (Tup ((Tup Int) × Int)) × (Tup Int) × Unit => m_law_value p.1 p.2.1 p.2.2.1) ((g_law_value T).df) de_int (de_var 14 rfl rfl (by first | exact Or.inl rfl | exact Or.inr (Or.inl rfl) | exact Or.inr (Or.inr rfl))) (de_var 12 rfl rfl (by first | exact Or.inl rfl | exact Or.inr (Or.inl rfl) | exact Or.inr (Or.inr rfl))))))))))) (by exact (de_var 8 rfl rfl (by first | exact Or.inl rfl | exact Or.inr (Or.inl rfl) | exact Or.inr (Or.inr rfl)))))))))) (ds_end (s := ()) (.same (.same (.same (.same (.same (.same (.same (.same (.same (.same (.any (.any (.any (.any (.any .nil)))))))))))))))) (fun s_583 => (ds_if (jk := (fun (s : Unit) => ([.val (p_script : (List Int)), .val (inputs_518 : Int), .val (names_524 : (List Str)), .val (circuit_526 : (Tri (List Str) (List (Trp Str Str (Tup Str))) (List Str))), .val (s_549 : (Tri (List Str) (List (Trp Str Str (Tup Str))) (List Str))), .val (pair_551 : (List (CirD G))), .val (answer_554 : ((Str × (List (Tup ((Tup Int) × Int)))) ⊕ (Trp Str (Tup Int) Int))), .val (points_557 : (List (Tup Int))), .val (here_558 : (List (List Int))), .val (there_561 : (List (List Int))), .any, .any, .any, .any, .any] : List Slot))) (mt := (orO (((some true)).bind fun v_584 => some (!v_584)) (orO (some (!decide ((((Sum.elim (fun _ => 2) (fun _ => 3)) answer_554 : Nat) : Int) = (3 : Int)))) (orO (some (!decide (((Sum.elim (fun x : (Str × (List (Tup ((Tup Int) × Int)))) => x.1) (fun x : (Trp Str (Tup Int) Int) => x.x1)) answer_554) = ("unlike" : Str)))) (((((((some answer_554)).bind Sum.getRight?)).map (·.x2))).bind fun v_585 => ((some points_557)).bind fun v_586 => (ninD v_585 v_586)))))) (DeW.t (dw_or (dt_not (m := (some true)) (dt_of (m := (some true)) (de_isiT (m := (some answer_554)) T.isinstance T.tuple (de_var 6 rfl rfl (by first | exact Or.inl rfl | exact Or.inr (Or.inl rfl) | exact Or.inr (Or.inr rfl)))))) (dw_or (dt_c1P (f := fun (x : Int) (y : Int) => some (!decide (x = y))) cmp_neI (by exact (de_lenT (m := (some answer_554)) T.len (de_var 6 rfl rfl (by first | exact Or.inl rfl | exact Or.inr (Or.inl rfl) | exact Or.inr (Or.inr rfl))))) (by exact de_int)) (dw_or (dt_c1P (f := fun (x : Str) (y : Str) => some (!decide (x = y))) cmp_neS (by exact (de_head (m := (some answer_554)) (de_var 6 rfl rfl (by first | exact Or.inl rfl | exact Or.inr (Or.inl rfl) | exact Or.inr (Or.inr rfl))))) (by exact de_str)) (dw_or1 (dt_c1 (ma := (((((some answer_554)).bind Sum.getRight?)).map (·.x2))) (mb := (some points_557)) (f := fun (x : (Tup Int)) (y : (List (Tup Int))) => (ninD x y)) cmp_ninD (by exact (de_trp2 (m := (((some answer_554)).bind Sum.getRight?)) (de_outr (m := (some answer_554)) (de_var 6 rfl rfl (by first | exact Or.inl rfl | exact Or.inr (Or.inl rfl) | exact Or.inr (Or.inr rfl)))))) (by exact (de_var 7 rfl rfl (by first | exact Or.inl rfl | exact Or.inr (Or.inl rfl) | exact Or.inr (Or.inr rfl)))))))))) (by exact (ds_ret de_bl)) (ds_end (s := ()) (.same (.same (.same (.same (.same (.same (.same (.same (.same (.same (.any (.any (.any (.any (.any .nil)))))))))))))))) (fun s_589 => (ds_if (jk := (fun (s : Unit) => ([.val (p_script : (List Int)), .val (inputs_518 : Int), .val (names_524 : (List Str)), .val (circuit_526 : (Tri (List Str) (List (Trp Str Str (Tup Str))) (List Str))), .val (s_549 : (Tri (List Str) (List (Trp Str Str (Tup Str))) (List Str))), .val (pair_551 : (List (CirD G))), .val (answer_554 : ((Str × (List (Tup ((Tup Int) × Int)))) ⊕ (Trp Str (Tup Int) Int))), .val (points_557 : (List (Tup Int))), .val (here_558 : (List (List Int))), .val (there_561 : (List (List Int))), .any, .any, .any, .any, .any] : List Slot))) (mt := (((chO (fun a_590 b_591 => some (decide (a_590 ≤ b_591))) (fun a_590 b_591 => some (decide (a_590 < b_591))) (some (0 : Int)) (((((some answer_554)).bind Sum.getRight?)).map (·.x3)) (some (circuit_526.x3.length : Int)))).bind fun v_592 => some (!v_592))) (dt_not (m := (chO (fun a_590 b_591 => some (decide (a_590 ≤ b_591))) (fun a_590 b_591 => some (decide (a_590 < b_591))) (some (0 : Int)) (((((some answer_554)).bind Sum.getRight?)).map (·.x3)) (some (circuit_526.x3.length : Int)))) (dt_chain (ma := (some (0 : Int))) (mb := (((((some answer_554)).bind Sum.getRight?)).map (·.x3))) (mc := (some (circuit_526.x3.length : Int))) (f := (fun a_590 b_591 => some (decide (a_590 ≤ b_591)))) (g := (fun a_590 b_591 => some (decide (a_590 < b_591)))) cmp_le cmp_lt de_int (de_trp3 (m := (((some answer_554)).bind Sum.getRight?)) (de_outr (m := (some answer_554)) (de_var 6 rfl rfl (by first | exact Or.inl rfl | exact Or.inr (Or.inl rfl) | exact Or.inr (Or.inr rfl))))) (de_lenLP  T.len (De.l (de_tri3 (m := (some circuit_526)) (de_var 3 rfl rfl (by first | exact Or.inl rfl | exact Or.inr (Or.inl rfl) | exact Or.inr (Or.inr rfl)))))))) (by exact (ds_ret de_bl)) (ds_end (s := ()) (.same (.same (.same (.same (.same (.same (.same (.same (.same (.same (.any (.any (.any (.any (.any .nil)))))))))))))))) (fun s_595 => (ds_set (i := 10) (as_e (m := (((some points_557)).bind fun v_597 => ((((((some answer_554)).bind Sum.getRight?)).map (·.x2))).bind fun v_598 => (idxD v_597 v_598))) 10 (de_indexD (m := (some points_557)) (n := (((((some answer_554)).bind Sum.getRight?)).map (·.x2))) (de_var 7 rfl rfl (by first | exact Or.inl rfl | exact Or.inr (Or.inl rfl) | exact Or.inr (Or.inr rfl))) (de_trp2 (m := (((some answer_554)).bind Sum.getRight?)) (de_outr (m := (some answer_554)) (de_var 6 rfl rfl (by first | exact Or.inl rfl | exact Or.inr (Or.inl rfl) | exact Or.inr (Or.inr rfl)))))) sc_law.nd rfl (by first | exact Or.inl rfl | exact Or.inr rfl) (by first | exact Or.inl rfl | exact Or.inr rfl) (fun _ _ => rfl)) (fun at_596 => (by exact (ds_ret (de_c (f := fun (x : Int) (y : Int) => some (!decide (x = y))) cmp_neI (by exact (de_ixL (De.l (de_ixLP (De.l (de_var 8 rfl rfl (by first | exact Or.inl rfl | exact Or.inr (Or.inl rfl) | exact Or.inr (Or.inr rfl)))) (de_var 10 rfl rfl (by first | exact Or.inl rfl | exact Or.inr (Or.inl rfl) | exact Or.inr (Or.inr rfl))))) (de_trp3 (m := (((some answer_554)).bind Sum.getRight?)) (de_outr (m := (some answer_554)) (de_var 6 rfl rfl (by first | exact Or.inl rfl | exact Or.inr (Or.inl rfl) | exact Or.inr (Or.inr rfl))))))) (by exact (de_ixL (De.l (de_ixLP (De.l (de_var 9 rfl rfl (by first | exact Or.inl rfl | exact Or.inr (Or.inl rfl) | exact Or.inr (Or.inr rfl)))) (de_var 10 rfl rfl (by first | exact Or.inl rfl | exact Or.inr (Or.inl rfl) | exact Or.inr (Or.inr rfl))))) (de_trp3 (m := (((some answer_554)).bind Sum.getRight?)) (de_outr (m := (some answer_554)) (de_var 6 rfl rfl (by first | exact Or.inl rfl | exact Or.inr (Or.inl rfl) | exact Or.inr (Or.inr rfl))))))))))))))))))))))))))))))))))))))))
theorem ok_law (T : Tx K mg C fI fdI G fG fdG) {fa : Addr} {fd : FuncData} (F : Fun K "law" "law" s_law fa fd) : FnOk P w K mg base CX0 7 fa fd ["script"] (spF K (fun p : (List Int) × Unit => m_law C G p.1)) := fn_ok F sc_law (by decide) (fun _ => rfl) (fun _ h => nomatch h) (b_law T)

end
end Kt

set_option maxRecDepth 100000
set_option linter.all false
set_option Elab.async false
namespace Kt
open PySem PySem.Spec L2 Dn
theorem cell_ok (ns : List Int) {k : Int} (h : 0 ≤ k) : ∃ v, m_law_cell ns k = some v := by
  unfold m_law_cell fl_law_cell
  try simp only [Option.bind_some, Option.map_some]
  rw [bO]
  by_cases q : k < (ns.length : Int)
  · obtain ⟨v, e, _⟩ := atI_ge h q
    rw [decide_eq_true q, if_pos rfl, e, bO, bR]
    exact ⟨v, rfl⟩
  · rw [decide_eq_false q, if_neg Bool.false_ne_true, bN, bO]
    exact ⟨0, rfl⟩
theorem pow18 : powI 10 18 = some (10 ^ 18) := by decide +kernel
theorem digits_ok (cell : Int) {many count : Int} (h0 : 0 < many) (h1 : many < 1073741824) (c0 : 0 ≤ count) (c1 : count ≤ 1000) : ∃ ds, m_law_digits cell many count = some ds ∧ (ds.length : Int) = count ∧ ∀ d ∈ ds, 0 ≤ d ∧ d < many := by
  unfold m_law_digits fl_law_digits
  try simp only [Option.bind_some, Option.map_some]
  rw [bO, bO, rangeI_ok (by omega) c0, bO]
  refine loop_fin (fun n (s : List Int × Int) => s.1.length = n ∧ ∀ d ∈ s.1, 0 ≤ d ∧ d < many) (fun i hi m s hm hs => ?_) ⟨rfl, fun _ h => nomatch h⟩ (fun s hs => ?_)
  · obtain ⟨hl, hs⟩ := hs
    rw [upto_len] at hm
    have hi := upto_mem hi
    have hL : len1 s.1.length = true := len1_of (by omega)
    have add : ∀ y : Int, (∀ d ∈ s.1 ++ [y % many], 0 ≤ d ∧ d < many) ∧ (s.1 ++ [y % many]).length = m + 1 := fun y => ⟨fun d hd => by
      rcases List.mem_append.mp hd with hd | hd
      · exact hs d hd
      · cases List.mem_singleton.mp hd
        exact ⟨Int.emod_nonneg _ (by omega), Int.emod_lt_of_pos _ h0⟩, by rw [List.length_append, hl]; rfl⟩
    rw [pow18, Option.bind_some, bO]
    by_cases q : (10 : Int) ^ 18 ≤ cell
    · rw [decide_eq_true q, if_pos rfl, modI_ok h0, bO, hL, if_pos rfl, divI_ok h0 h1, bO, bN]
      exact ⟨_, rfl, (add _).2, (add _).1⟩
    · rw [decide_eq_false q, if_neg Bool.false_ne_true, mulR (by decide) (by decide), Option.bind_some, mulR (by decide) (by decide), Option.bind_some, Option.bind_some, Option.bind_some, Option.bind_some, modI_ok (by decide), bO]
      have r0 : 0 ≤ (cell * 48271 + i * 69621 + 1013) % 2147483647 := Int.emod_nonneg _ (by decide)
      have r1 : (cell * 48271 + i * 69621 + 1013) % 2147483647 < 2147483647 := Int.emod_lt_of_pos _ (by decide)
      generalize (cell * 48271 + i * 69621 + 1013) % 2147483647 = x at r0 r1
      rw [mulR (by omega) (by omega), Option.bind_some, mulR (by omega) (by omega), Option.bind_some, Option.bind_some, Option.bind_some, Option.bind_some, modI_ok (by decide), bO, divI_ok (by decide) (by decide), Option.bind_some, Option.bind_some, modI_ok h0, bO, hL, if_pos rfl, bN]
      exact ⟨_, rfl, (add _).2, (add _).1⟩
  · rw [bO]
    refine ⟨s.1, rfl, ?_, hs.2⟩
    rw [hs.1, upto_len]
    omega
def SH : List (Int × Int) := [(2, 1), (2, 2), (2, 3), (2, 4), (2, 5)]
def TT (s : Int × Int) : List (Tup Int) := (m_tuples_in_order s.1 s.2).getD []
theorem F0 : ∀ s ∈ SH, 2 ≤ s.1 ∧ s.1 ≤ 7 ∧ 1 ≤ s.2 ∧ s.2 ≤ 5 := by decide
theorem F1 : ∀ s ∈ SH, True ∧ m_tuples_in_order s.1 s.2 = some (TT s) := by decide +kernel
theorem space_ok (C : Addr) {s : Int × Int} (hs : s ∈ SH) {ns : List Str} (hm : m_make_a_space s.1 ns = some true) (hl : (ns.length : Int) = s.2) : m_space C s.1 ns = some ⟨s.1, ns, s.2, TT s⟩ := by
  have e : fl_init C s.1 ns = .nx ⟨s.1, ns, s.2, TT s⟩ := by
    unfold fl_init
    rw [hm, Option.bind_some, Bool.not_true, bO, if_neg Bool.false_ne_true, bN, bO, bO, bO, hl, (F1 s hs).2, bO]
  unfold m_space
  rw [e]
  rfl
end Kt

set_option maxRecDepth 100000
set_option linter.all false
set_option Elab.async false
namespace Kt
open PySem PySem.Spec L2 Dn
theorem at0 {α : Type} (x : α) (xs : List α) : atI (x :: xs) (0 : Int) = some x := atI_nat (j := 0) (v := x) rfl
theorem repI_zero {m : Nat} (h : m ≤ 1000) : repI ([(0 : Int)] : List Int) (m : Int) = some (tab m fun _ => 0) := by
  unfold repI
  have e : (List.replicate m ([0] : List Int)).flatten = tab m fun _ => 0 := by
    unfold tab
    clear h
    induction m with
    | zero => rfl
    | succ m ih =>
      rw [List.replicate_succ, List.flatten_cons, ih, List.range_succ_eq_map, List.map_cons, List.map_map]
      rfl
  have c : (decide (-1000000 ≤ (m : Int)) && decide ((m : Int) ≤ 1000000) && len1 (([(0 : Int)] : List Int).length * (m : Int).toNat)) = true := by
    rw [decide_eq_true (by omega), decide_eq_true (by omega), Bool.and_self, Bool.true_and]
    refine len1_of ?_
    show 1 * (m : Int).toNat ≤ 100000
    omega
  rw [if_pos c, Int.toNat_natCast, e]
theorem zip_tab {m : Nat} (f g : Nat → Int) : (tab m f).zip (tab m g) = (List.range m).map fun j => (f j, g j) := by
  unfold tab
  rw [List.zip_map']
theorem tab_map {m : Nat} (f : Nat → Int) (h : Int → Int) : (tab m f).map h = tab m fun j => h (f j) := by
  unfold tab
  rw [List.map_map]
  rfl
theorem wsum_eq {p : Int} (hp : 0 < p) {P m : Nat} (hP : 0 < P) (hm : m ≤ 1000) (w : Nat → Int) (x : Nat → Nat → Int) (hw : ∀ s, s < P → 0 ≤ w s ∧ w s ≤ 1000) : m_weighted_sum p (tab P w) ((List.range P).map fun s => tab m (x s)) = some (tab m fun j => (S P fun s => w s * x s j) % p) := by
  unfold m_weighted_sum fl_weighted_sum
  have hz : (tab P w).zip ((List.range P).map fun s => tab m (x s)) = (List.range P).map fun s => (w s, tab m (x s)) := by
    unfold tab
    rw [List.zip_map']
  have ha : atI ((List.range P).map fun s => tab m (x s)) (0 : Int) = some (tab m (x 0)) := by
    obtain ⟨P', rfl⟩ : ∃ P', P = P' + 1 := ⟨P - 1, by omega⟩
    rw [List.range_succ_eq_map, List.map_cons]
    exact at0 _ _
  simp -implicitDefEqProofs only [Option.bind_some]
  rw [ha, Option.bind_some, tab_len, Option.bind_some, repI_zero hm, bO, bO, hz]
  have step : ∀ {L : Type} (n : Nat), n ≤ P → ∀ t : Nat, (Fl.loop (fun (i_60 : (Int × (List Int))) (s_59 : ((List Int))) => ((Fl.bindO (some (!decide (i_60.1 = (0 : Int)))) fun v_66 => Fl.bind (if v_66 = true then ((Fl.bindO ((capI (s_59.zip i_60.2)).bind fun xs_65 => mapO (fun (i_62 : (Int × Int)) => (((mulI i_60.1 i_62.2)).bind fun v_64 => some (i_62.1 + v_64))) xs_65) fun total_61 => (.nx total_61)) : Fl ((List Int)) ((List Int)) (List Int)) else (.nx s_59)) fun s_67 => (.nx s_67)) : Fl ((List Int)) ((List Int)) (List Int))) ((List.range' t n).map fun s => (w s, tab m (x s))) (tab m fun j => S t fun s => w s * x s j) : Fl ((List Int)) L (List Int)) = if t + n ≤ P then .nx (tab m fun j => S (t + n) fun s => w s * x s j) else (Fl.loop (fun (i_60 : (Int × (List Int))) (s_59 : ((List Int))) => ((Fl.bindO (some (!decide (i_60.1 = (0 : Int)))) fun v_66 => Fl.bind (if v_66 = true then ((Fl.bindO ((capI (s_59.zip i_60.2)).bind fun xs_65 => mapO (fun (i_62 : (Int × Int)) => (((mulI i_60.1 i_62.2)).bind fun v_64 => some (i_62.1 + v_64))) xs_65) fun total_61 => (.nx total_61)) : Fl ((List Int)) ((List Int)) (List Int)) else (.nx s_59)) fun s_67 => (.nx s_67)) : Fl ((List Int)) ((List Int)) (List Int))) ((List.range' t n).map fun s => (w s, tab m (x s))) (tab m fun j => S t fun s => w s * x s j) : Fl ((List Int)) L (List Int)) := by
    intro L n
    induction n with
    | zero =>
      intro _ t
      split
      · rfl
      · rfl
    | succ n ih =>
      intro hn t
      split
      · rename_i ht
        rw [List.range'_succ, List.map_cons]
        unfold Fl.loop
        have hws := hw t (by omega)
        have nx : Fl.bind (if (!decide (w t = (0 : Int))) = true then ((Fl.bindO ((capI ((tab m fun j => S t fun s => w s * x s j).zip (tab m (x t)))).bind fun xs_65 => mapO (fun (i_62 : (Int × Int)) => (((mulI (w t) i_62.2)).bind fun v_64 => some (i_62.1 + v_64))) xs_65) fun total_61 => (.nx total_61)) : Fl ((List Int)) ((List Int)) (List Int)) else (.nx (tab m fun j => S t fun s => w s * x s j))) (fun s_67 => (.nx s_67 : Fl (List Int) (List Int) (List Int))) = .nx (tab m fun j => S (t + 1) fun s => w s * x s j) := by
          by_cases z : w t = 0
          · rw [decide_eq_true z, Bool.not_true, if_neg Bool.false_ne_true, bN]
            refine congrArg Fl.nx (tab_congr fun j _ => ?_)
            show S t _ = S t _ + w t * x t j
            rw [z, Int.zero_mul, Int.add_zero]
          · rw [decide_eq_false z, Bool.not_false, if_pos rfl, zip_tab, capI_ok (by rw [List.length_map, List.length_range]; omega), Option.bind_some, mapO_val (g := fun q : Int × Int => q.1 + w t * q.2) (fun q _ => by
              rw [mulL (by omega) (by omega), Option.bind_some]), bO, bN, List.map_map]
            rfl
        rw [bO, nx]
        have := ih (by omega) (t + 1)
        rw [if_pos (by omega)] at this
        show Fl.loop _ ((List.range' (t + 1) n).map fun s => (w s, tab m (x s))) _ = _
        rw [this]
        have e : t + 1 + n = t + (n + 1) := by omega
        rw [e]
      · rfl
  have st := step (L := Unit) P (Nat.le_refl _) 0
  rw [if_pos (by omega), ← List.range_eq_range', Nat.zero_add] at st
  show Fl.fin none (Fl.bind (Fl.loop _ _ (tab m fun j => S 0 fun s => w s * x s j)) _) = _
  rw [st, bN, capI_ok (by rw [tab_len]; omega), Option.bind_some, mapO_val (g := fun v => v % p) (fun v _ => modI_ok hp), bO, tab_map]
  rfl
theorem foldl_flat {α : Type} (h : α → List Int) : ∀ (l : List α) (acc : List Int), l.foldl (fun acc r => acc ++ h r) acc = acc ++ l.flatMap h
  | [], acc => by rw [List.flatMap_nil, List.append_nil]; rfl
  | r :: l, acc => by
    rw [List.foldl_cons, foldl_flat h l, List.flatMap_cons, List.append_assoc]
def rowsL (P : Nat) (R : Nat → Nat → Int) : List (List Int) := (List.range P).map fun r => tab P (R r)
def Small (P : Nat) (R : Nat → Nat → Int) : Prop := ∀ r, r < P → ∀ s, s < P → 0 ≤ R r s ∧ R r s ≤ 1000
theorem once_eq {P m : Nat} (hP : 0 < P) (hP9 : P ≤ 10) (hm0 : 0 < m) (hm : m ≤ 1000) {R : Nat → Nat → Int} (hR : Small P R) {xs : List Int} (hl : xs.length = m * P) : m_turned_once (P : Int) (rowsL P R) xs = some (tab (P * m) fun i => Lt P m R (ofL xs) i % (P : Int)) := by
  have ep : mapO (fun (i_74 : Int) => (if 0 < (P : Int) ∧ (pickG xs (some i_74) none (some (P : Int))).length ≤ 100000 then some (pickG xs (some i_74) none (some (P : Int))) else none)) (upto 0 P) = some ((List.range P).map fun s => tab m fun j => ofL xs (j * P + s)) := by
    rw [mapO_val (g := fun i => pickG xs (some i) none (some (P : Int))) (fun i hi => by
      have hi := upto_mem hi
      obtain ⟨s, rfl⟩ := Int.eq_ofNat_of_zero_le hi.1
      rw [if_pos ⟨by omega, by rw [pick_step hl (by omega) hm0, tab_len]; omega⟩])]
    unfold upto
    rw [List.map_map]
    refine congrArg some (List.map_congr_left fun s hs => ?_)
    show pickG xs (some (0 + (s : Int))) none (some (P : Int)) = _
    rw [Int.zero_add]
    exact pick_step hl (List.mem_range.mp hs) hm0
  unfold m_turned_once fl_turned_once
  rw [rangeI_ok (by omega) (by omega), Int.toNat_natCast, Option.bind_some, capI_ok (by rw [upto_len]; omega), Option.bind_some, ep, bO, bO, bO]
  rw [loop_fold (N := P) (fun (acc : List Int) row => acc ++ (m_weighted_sum (P : Int) row ((List.range P).map fun s => tab m fun j => ofL xs (j * P + s))).getD []) (fun n acc => acc.length ≤ n * 1000) (n := 0) (fun row hrow n acc hn ha => by
    obtain ⟨r, hr, rfl⟩ := List.mem_map.mp hrow
    rw [wsum_eq (by omega) hP hm (R r) (fun s j => ofL xs (j * P + s)) (fun s hs => hR r (List.mem_range.mp hr) s hs), bO, tab_len, if_pos (len1_of (by omega))]
    refine ⟨rfl, ?_⟩
    show (acc ++ tab m _).length ≤ _
    rw [List.length_append, tab_len]
    omega) (by unfold rowsL; rw [List.length_map, List.length_range]; omega) (Nat.le_refl _), bN, bO, foldl_flat, List.nil_append]
  have e : (rowsL P R).flatMap (fun row => (m_weighted_sum (P : Int) row ((List.range P).map fun s => tab m fun j => ofL xs (j * P + s))).getD []) = (List.range P).flatMap fun r => tab m fun j => (S P fun s => R r s * ofL xs (j * P + s)) % (P : Int) := by
    unfold rowsL
    have : ∀ l : List Nat, (∀ r ∈ l, r < P) → (l.map fun r => tab P (R r)).flatMap (fun row => (m_weighted_sum (P : Int) row ((List.range P).map fun s => tab m fun j => ofL xs (j * P + s))).getD []) = l.flatMap fun r => tab m fun j => (S P fun s => R r s * ofL xs (j * P + s)) % (P : Int) := fun l h => by
      induction l with
      | nil => rfl
      | cons r l ih =>
        rw [List.map_cons, List.flatMap_cons, List.flatMap_cons, ih fun r hr => h r (List.mem_cons_of_mem _ hr), wsum_eq (by omega) hP hm (R r) (fun s j => ofL xs (j * P + s)) (fun s hs => hR r (h r (List.mem_cons_self ..)) s hs)]
        rfl
    exact this _ fun r hr => List.mem_range.mp hr
  rw [e, flat_tab m hm0 (fun r j => (S P fun s => R r s * ofL xs (j * P + s)) % (P : Int))]
  rfl
def tF (P : Nat) (R : Nat → Nat → Int) (_ : Int) (s : List Int) : Fl (List Int) (List Int) (List Int) := Fl.bindO (m_turned_once (P : Int) (rowsL P R) s) fun n => .nx n
theorem tF_loop {L : Type} {P m : Nat} (hP : 0 < P) (hP9 : P ≤ 10) (hm0 : 0 < m) (hm : m ≤ 1000) {R : Nat → Nat → Int} (hR : Small P R) : ∀ (is : List Int) (xs : List Int), xs.length = m * P → ∃ ys, (Fl.loop (tF P R) is xs : Fl ((List Int)) L (List Int)) = .nx ys ∧ ys.length = m * P ∧ (∀ i, i < m * P → ofL ys i % (P : Int) = Lp P m R is.length (ofL xs) i % (P : Int)) ∧ (0 < is.length → ∀ i, i < m * P → 0 ≤ ofL ys i ∧ ofL ys i < (P : Int))
  | [], xs, hl => ⟨xs, loop_nil _ _, hl, fun _ _ => rfl, fun h => absurd h (by decide)⟩
  | i0 :: is, xs, hl => by
    have o := once_eq hP hP9 hm0 hm hR hl
    have o2 : tF P R i0 xs = .nx (tab (P * m) fun i => Lt P m R (ofL xs) i % (P : Int)) := by
      unfold tF
      rw [o, bO]
    have lo : (tab (P * m) fun i => Lt P m R (ofL xs) i % (P : Int)).length = m * P := by rw [tab_len, Nat.mul_comm]
    have at_ : ∀ i, i < m * P → ofL (tab (P * m) fun i => Lt P m R (ofL xs) i % (P : Int)) i = Lt P m R (ofL xs) i % (P : Int) := fun i hi => ofL_tab _ (by rw [Nat.mul_comm]; exact hi)
    generalize (tab (P * m) fun i => Lt P m R (ofL xs) i % (P : Int)) = zs at o2 lo at_
    obtain ⟨ys, y1, y2, y3, y4⟩ := tF_loop (L := L) hP hP9 hm0 hm hR is zs lo
    refine ⟨ys, (loop_cons o2 is).trans y1, y2, fun i hi => ?_, fun _ i hi => ?_⟩
    · rw [y3 i hi, List.length_cons, Lp_succ]
      exact Lp_mod (P : Int) R is.length (fun i hi => by rw [at_ i hi, Int.emod_emod]) hi
    · cases is with
      | nil =>
        have : zs = ys := Fl.nx.inj ((loop_nil (L := L) (tF P R) zs).symm.trans y1)
        rw [← this, at_ i hi]
        exact ⟨Int.emod_nonneg _ (by omega), Int.emod_lt_of_pos _ (by omega)⟩
      | cons a l => exact y4 (Nat.succ_pos _) i hi
theorem turned_eq {C : Addr} (sp : SpaceD C) {P m : Nat} (e1 : sp.prime = (P : Int)) (hc0 : 0 ≤ sp.count) (hc : sp.count ≤ 10) (hP : 0 < P) (hP9 : P ≤ 10) (hm0 : 0 < m) (hm : m ≤ 1000) {R : Nat → Nat → Int} (hR : Small P R) {xs : List Int} (hl : xs.length = m * P) : ∃ ys, m_turned sp (rowsL P R) xs = some ys ∧ ys.length = m * P ∧ (∀ i, i < m * P → ofL ys i % (P : Int) = Lp P m R sp.count.toNat (ofL xs) i % (P : Int)) ∧ (0 < sp.count → ∀ i, i < m * P → 0 ≤ ofL ys i ∧ ofL ys i < (P : Int)) := by
  obtain ⟨ys, y1, y2, y3, y4⟩ := tF_loop (L := Unit) hP hP9 hm0 hm hR (upto 0 sp.count.toNat) xs hl
  rw [upto_len] at y3 y4
  refine ⟨ys, ?_, y2, y3, fun h i hi => y4 (by omega) i hi⟩
  unfold m_turned fl_turned
  rw [rangeI_ok (by omega) hc0, bO, e1]
  unfold tF at y1
  rw [y1, bN, bO]
  rfl
end Kt

set_option maxRecDepth 100000
set_option linter.all false
set_option Elab.async false
namespace Kt
open PySem PySem.Spec L2 Dn
def VR (p : Int) : List (List Int) := (List.range p.toNat).map fun r => (List.range p.toNat).map fun e => powT p.toNat r e
def NR (p : Int) : List (List Int) := (m_number_rows p).getD []
def Rf (L : List (List Int)) (r s : Nat) : Int := (L.getD r []).getD s 0
def NN (s : Int × Int) : Nat := (TT s).length
def MM (s : Int × Int) : Nat := NN s / s.1.toNat
theorem F7 : ∀ s ∈ SH, NN s = MM s * s.1.toNat ∧ 0 < MM s ∧ MM s ≤ 1000 ∧ (s.1.toNat : Int) = s.1 ∧ NN s = s.1.toNat ^ s.2.toNat ∧ MM s = s.1.toNat ^ (s.2.toNat - 1) := by decide +kernel
theorem V1 : ∀ s ∈ SH, VR s.1 = rowsL s.1.toNat (Rf (VR s.1)) ∧ m_number_rows s.1 = some (NR s.1) ∧ NR s.1 = rowsL s.1.toNat (Rf (NR s.1)) := by decide +kernel
theorem V2 : ∀ s ∈ SH, (∀ r, r < s.1.toNat → ∀ j, j < s.1.toNat → 0 ≤ Rf (VR s.1) r j ∧ Rf (VR s.1) r j ≤ 1000) ∧ (∀ r, r < s.1.toNat → ∀ j, j < s.1.toNat → 0 ≤ Rf (NR s.1) r j ∧ Rf (NR s.1) r j ≤ 1000) := by decide +kernel
theorem V3 : ∀ s ∈ SH, ∀ r, r < s.1.toNat → ∀ e, e < s.1.toNat → Rf (VR s.1) r e = powT s.1.toNat r e := by decide +kernel
theorem O1 : ∀ s ∈ SH, ∀ a, a < s.1.toNat → ∀ b, b < s.1.toNat → Dn.S s.1.toNat (fun r => Rf (NR s.1) a r * Rf (VR s.1) r b) % s.1 = (if a = b then 1 else 0) % s.1 := by decide +kernel
theorem O2 : ∀ s ∈ SH, ∀ a, a < s.1.toNat → ∀ b, b < s.1.toNat → Dn.S s.1.toNat (fun r => Rf (VR s.1) a r * Rf (NR s.1) r b) % s.1 = (if a = b then 1 else 0) % s.1 := by decide +kernel
end Kt

set_option maxRecDepth 100000
set_option linter.all false
set_option Elab.async false
namespace Kt
open PySem PySem.Spec L2 Dn
structure Sp (s : Int × Int) {C : Addr} (sp : SpaceD C) : Prop where
  hs : s ∈ SH
  pr : sp.prime = s.1
  co : sp.count = s.2
theorem turn_eq {C : Addr} {sp : SpaceD C} {s : Int × Int} (h : Sp s sp) {L : List (List Int)} (e : L = rowsL s.1.toNat (Rf L)) (sm : Small s.1.toNat (Rf L)) {xs : List Int} (hl : xs.length = NN s) : ∃ ys, m_turned sp L xs = some ys ∧ ys.length = NN s ∧ (∀ i, i < NN s → ofL ys i = Dn.S (NN s) (fun b => Ww s.1.toNat (Rf L) s.2.toNat i b * ofL xs b) % s.1) ∧ ∀ i, i < NN s → 0 ≤ ofL ys i ∧ ofL ys i < s.1 := by
  have f0 := F0 s h.hs
  obtain ⟨f1, f2, f3, f4, f5, f6⟩ := F7 s h.hs
  obtain ⟨ys, y1, y2, y3, y4⟩ := turned_eq sp (P := s.1.toNat) (m := MM s) (by rw [h.pr, f4]) (by rw [h.co]; omega) (by rw [h.co]; omega) (by omega) (by omega) f2 f3 sm (xs := xs) (by rw [hl, f1])
  rw [← e] at y1
  rw [← f1] at y2 y3 y4
  rw [f4, h.co] at y3
  rw [f4] at y4
  have y5 := y4 (by rw [h.co]; omega)
  refine ⟨ys, y1, y2, fun i hi => ?_, y5⟩
  have a := y3 i hi
  rw [Int.emod_eq_of_lt (y5 i hi).1 (y5 i hi).2] at a
  rw [a, f6, Lp_all (by omega) (Rf L) (ofL xs) (by rw [← f5]; exact hi), ← f5]
theorem undo {C : Addr} {sp : SpaceD C} {s : Int × Int} (h : Sp s sp) {A B : List (List Int)} (ea : A = rowsL s.1.toNat (Rf A)) (sa : Small s.1.toNat (Rf A)) (eb : B = rowsL s.1.toNat (Rf B)) (sb : Small s.1.toNat (Rf B))
    (hu : ∀ a, a < s.1.toNat → ∀ b, b < s.1.toNat → Dn.S s.1.toNat (fun r => Rf B a r * Rf A r b) % s.1 = (if a = b then 1 else 0) % s.1) {xs : List Int} (hl : xs.length = NN s) : ∃ ys, m_turned sp A xs = some ys ∧ m_turned sp B ys = some (xs.map (· % s.1)) ∧ ys.length = NN s ∧ ∀ i, i < NN s → 0 ≤ ofL ys i ∧ ofL ys i < s.1 := by
  have f0 := F0 s h.hs
  have f5 := (F7 s h.hs).2.2.2.2.1
  obtain ⟨ys, y1, y2, y3, y4⟩ := turn_eq h ea sa hl
  obtain ⟨zs, z1, z2, z3, z4⟩ := turn_eq h eb sb y2
  refine ⟨ys, y1, ?_, y2, y4⟩
  rw [z1]
  refine congrArg some ?_
  have hm : ∀ i, ofL (xs.map (· % s.1)) i = ofL xs i % s.1 := fun i => by
    unfold ofL
    rw [List.getD_eq_getElem?_getD, List.getD_eq_getElem?_getD, List.getElem?_map]
    cases xs[i]? with
    | none => exact (Int.zero_emod _).symm
    | some v => rfl
  have eq : ∀ i, i < NN s → ofL zs i = ofL (xs.map (· % s.1)) i := fun i hi => by
    rw [hm, z3 i hi, f5]
    refine W_back (by omega) hu (ofL xs) (ofL ys) (fun t ht => ?_) (by rw [← f5]; exact hi)
    rw [← f5] at ht
    rw [y3 t ht, Int.emod_emod, f5]
  have l2 : (xs.map (· % s.1)).length = NN s := by rw [List.length_map, hl]
  rw [← tab_ofL zs, ← tab_ofL (xs.map (· % s.1)), z2, l2]
  exact tab_congr eq
theorem undo2 {C : Addr} {sp : SpaceD C} {s : Int × Int} (h : Sp s sp) {xs : List Int} (hl : xs.length = NN s) : ∃ ys, m_turned sp (NR s.1) xs = some ys ∧ m_turned sp (VR s.1) ys = some (xs.map (· % s.1)) ∧ ys.length = NN s ∧ ∀ i, i < NN s → 0 ≤ ofL ys i ∧ ofL ys i < s.1 :=
  undo h (V1 s h.hs).2.2 (V2 s h.hs).2 (V1 s h.hs).1 (V2 s h.hs).1 (O2 s h.hs) hl
end Kt

set_option maxRecDepth 100000
set_option linter.all false
set_option Elab.async false
namespace Kt
open PySem PySem.Spec L2 Dn
theorem F1p : ∀ s ∈ SH, m_law_points s.1 s.2 = some (TT s) := by decide +kernel
theorem F7p : ∀ s ∈ SH, ∀ a ∈ TT s, (a.l.length : Int) = s.2 ∧ 0 ≤ a.l.sum := by decide +kernel
theorem F8 : ∀ s ∈ SH, 0 < (TT s).length ∧ (TT s).length ≤ 1000 := by decide +kernel
structure Tot (m : Nat) (d : Dct Int) : Prop where
  len : d.l.length ≤ m
  ne : ∀ k ∈ d.keys, 1 ≤ k.l.length
theorem Tot.ok {m : Nat} {d : Dct Int} (h : Tot m d) (hm : m ≤ 1000) : okSort (d.l.map fun p => Dat.toD p.1) = true :=
  okSort_keys d (fun q hq => h.ne _ (List.mem_map.mpr ⟨q, hq, rfl⟩)) (Nat.le_trans h.len (by omega))
theorem F9 : ∀ s ∈ SH, (TT s).Pairwise fun a b => a.l < b.l := by decide +kernel
theorem nd_lt {T : List (Tup Int)} (h : T.Pairwise fun a b => a.l < b.l) : T.Nodup :=
  List.Pairwise.imp (fun {a b} (q : a.l < b.l) e => by rw [e] at q; exact List.lt_irrefl _ q) h
theorem F9n {s : Int × Int} (hs : s ∈ SH) : (TT s).Nodup := nd_lt (F9 s hs)
def pw (p : Int) (a b : Tup Int) : Int := (m_law_power_value p a b).getD 0
theorem F5z : ∀ s ∈ SH, ∀ x ∈ (TT s).zipIdx, ∀ y ∈ (TT s).zipIdx, m_law_power_value s.1 x.1 y.1 = some (Ww s.1.toNat (powT s.1.toNat) s.2.toNat y.2 x.2 % s.1) := by decide +kernel
theorem zi {T : List (Tup Int)} {b : Nat} (h : b < T.length) : (T.getD b zt, b) ∈ T.zipIdx := by
  rw [List.getD_eq_getElem?_getD, List.getElem?_eq_getElem h]
  exact List.mem_zipIdx_iff_getElem?.mpr (List.getElem?_eq_getElem h)
theorem F5 (s : Int × Int) (hs : s ∈ SH) (a : Tup Int) (ha : a ∈ TT s) (b : Tup Int) (hb : b ∈ TT s) : m_law_power_value s.1 a b = some (pw s.1 a b) ∧ 0 ≤ pw s.1 a b ∧ pw s.1 a b < s.1 := by
  have f0 := F0 s hs
  obtain ⟨i, hi, rfl⟩ := List.getElem_of_mem ha
  obtain ⟨j, hj, rfl⟩ := List.getElem_of_mem hb
  have mi : ((TT s)[i], i) ∈ (TT s).zipIdx := List.mem_zipIdx_iff_getElem?.mpr (List.getElem?_eq_getElem hi)
  have mj : ((TT s)[j], j) ∈ (TT s).zipIdx := List.mem_zipIdx_iff_getElem?.mpr (List.getElem?_eq_getElem hj)
  have e := F5z s hs _ mi _ mj
  dsimp only at e
  unfold pw
  rw [e]
  exact ⟨rfl, Int.emod_nonneg _ (by omega), Int.emod_lt_of_pos _ (by omega)⟩
theorem F4 {s : Int × Int} (hs : s ∈ SH) {i b : Nat} (hi : i < NN s) (hb : b < NN s) : Ww s.1.toNat (Rf (VR s.1)) s.2.toNat i b % s.1 = pw s.1 ((TT s).getD b zt) ((TT s).getD i zt) := by
  have f0 := F0 s hs
  have e := F5z s hs _ (zi hb) _ (zi hi)
  dsimp only at e
  rw [Ww_congr (by omega) (V3 s hs)]
  unfold pw
  rw [e]
  rfl
theorem value_law {s : Int × Int} (hs : s ∈ SH) {t : Po} (h : PolT (TT s) s.1 t) {b : Tup Int} (hb : b ∈ TT s) : m_law_value s.1 t b = some (EV s.1 (pw s.1) t b) := by
  have f0 := F0 s hs
  unfold m_law_value fl_law_value
  simp -implicitDefEqProofs only [Option.bind_some, Option.map_some]
  rw [bO, bO, loop_fold (N := t.l.length) (fun (z : Int) q => z + q.2 * pw s.1 q.1 b) (fun _ _ => True) (n := 0) (fun q hq n z _ _ => by
    obtain ⟨e2, v0, v1⟩ := F5 s hs q.1 (h.mem q hq).1 b hb
    rw [e2, Option.bind_some, mulR (by omega) (by omega), Option.bind_some, bO]
    exact ⟨rfl, trivial⟩) (by omega) trivial, bN, foldl_sum, Int.zero_add, modI_ok (by omega), bO]
  rfl
end Kt

set_option maxRecDepth 100000
set_option linter.all false
set_option Elab.async false
namespace Kt
open PySem PySem.Spec L2 Dn
structure SpT (s : Int × Int) {C : Addr} (sp : SpaceD C) : Prop extends Sp s sp where
  tu : sp.tuples = TT s
theorem powers_lex {C : Addr} (sp : SpaceD C) : m_powers sp ("lex" : Str) = some sp.tuples := rfl
theorem turned_nu {C : Addr} {sp : SpaceD C} {s : Int × Int} (h : SpT s sp) {f : Tup Int → Int} : m_turned sp (VR s.1) ((TT s).map f) = some ((TT s).map fun b => ((TT s).map fun k => f k * pw s.1 k b).sum % s.1) := by
  have f0 := F0 s h.hs
  have f1 := (F7 s h.hs).1
  have hl : ((TT s).map f).length = NN s := by rw [List.length_map]; rfl
  obtain ⟨ys, y1, y2, y3, y4⟩ := turn_eq h.toSp (V1 s h.hs).1 (V2 s h.hs).1 hl
  rw [y1]
  refine congrArg some ?_
  rw [← tab_ofL ys, y2, ← tab_list (fun b => ((TT s).map fun k => f k * pw s.1 k b).sum % s.1) (TT s)]
  show tab (NN s) (ofL ys) = tab (NN s) _
  refine tab_congr fun i hi => ?_
  rw [y3 i hi]
  rw [S_mod (g := fun b => f ((TT s).getD b zt) * pw s.1 ((TT s).getD b zt) ((TT s).getD i zt)) s.1 fun b hb => ?_]
  · exact congrArg (· % s.1) (S_list (fun k => f k * pw s.1 k ((TT s).getD i zt)) (TT s))
  · rw [Int.mul_emod, F4 h.hs hi hb, ofL_map _ _ hb, Int.mul_comm]
    rw [Int.mul_emod, Int.emod_emod, ← Int.mul_emod]
theorem poly_of_mk {C : Addr} {sp : SpaceD C} {s : Int × Int} (h : SpT s sp) {xs : List Int} {f : Tup Int → Int} (e : m_turned sp (NR s.1) xs = some ((TT s).map f)) : m_polynomial_of sp xs = some (mkP (TT s) f) := by
  have f8 := F8 s h.hs
  unfold m_polynomial_of fl_polynomial_of
  simp -implicitDefEqProofs only [Option.bind_some, Option.map_some]
  have z : (TT s).zip ((TT s).map f) = (TT s).map fun k => (k, f k) := by
    have := List.zip_map' (f := fun k : Tup Int => k) (g := f) (l := TT s)
    rw [List.map_id'] at this
    exact this
  rw [h.pr, (V1 s h.hs).2.1, Option.bind_some, e, bO, powers_lex, h.tu, Option.bind_some, z, Option.bind_some, capI_ok (by rw [List.length_map]; omega), Option.bind_some, compO_filter (α := Tup Int × Int) (fun q => !decide (q.2 = 0)) (fun q _ => rfl), bO, bO]
  rfl
theorem poly_of {C : Addr} {sp : SpaceD C} {s : Int × Int} (h : SpT s sp) {xs : List Int} (hl : xs.length = NN s) : ∃ t, m_polynomial_of sp xs = some t ∧ PolT (TT s) s.1 t ∧ (TT s).map (EV s.1 (pw s.1) t) = xs.map (· % s.1) := by
  obtain ⟨ys, y1, y2, y3, y4⟩ := undo2 h.toSp hl
  obtain ⟨f, rfl⟩ := list_fun (F9n h.hs) (ns := ys) y3
  have hf : ∀ k ∈ TT s, 0 ≤ f k ∧ f k < s.1 := fun k hk => by
    obtain ⟨i, hi, e⟩ := List.getElem_of_mem hk
    have := y4 i hi
    rw [ofL_map _ _ hi, List.getD_eq_getElem?_getD, List.getElem?_eq_getElem hi, e] at this
    exact this
  have pt := mkP_pol (F9 s h.hs) hf
  refine ⟨mkP (TT s) f, poly_of_mk h y1, pt, ?_⟩
  have b := turned_nu h (f := f)
  rw [y2] at b
  rw [Option.some.inj b]
  refine List.map_congr_left fun q _ => ?_
  rw [EV_T (F9n h.hs) pt (pw s.1) q]
  congr 2
  exact List.map_congr_left fun k hk => by rw [mkP_val (F9 s h.hs) f hk]
theorem F3 : ∀ s ∈ SH, ∀ a ∈ TT s, m_law_is_tuple_point s.1 s.2 a = some true := by decide +kernel
theorem is_poly {s : Int × Int} (hs : s ∈ SH) {t : Po} (ht : PolT (TT s) s.1 t) : m_law_is_polynomial s.1 s.2 t = some true := by
  have f0 := F0 s hs
  have f8 := F8 s hs
  have l1 := ht.len (F9 s hs)
  unfold m_law_is_polynomial fl_law_is_polynomial
  simp -implicitDefEqProofs only [Option.bind_some, Option.map_some]
  rw [rangeI_ok (by omega) (by omega), bO, loop_unit (fun i hi => ?_), bN, bO]
  · rfl
  · have hi := upto_mem hi
    obtain ⟨j, rfl⟩ := Int.eq_ofNat_of_zero_le hi.1
    have hj : j < t.l.length := by omega
    have a1 : atI t.l (j : Int) = some t.l[j] := atI_nat (List.getElem?_eq_getElem hj)
    have m1 := ht.mem _ (List.getElem_mem hj)
    rw [a1, bO, F3 s hs _ m1.1, Option.bind_some, Bool.not_true, orFa, ch_lt, Option.bind_some, decide_eq_true m1.2.1, decide_eq_true m1.2.2, Bool.and_self, Bool.not_true, bO, if_neg Bool.false_ne_true, bN]
    by_cases z : (0 : Int) < (j : Int)
    · have hj2 : j - 1 < t.l.length := by omega
      have e : ((j : Int) - 1) = ((j - 1 : Nat) : Int) := by omega
      have a2 : atI t.l ((j : Int) - 1) = some t.l[j - 1] := by rw [e]; exact atI_nat (List.getElem?_eq_getElem hj2)
      have lt : (t.l[j]).1.l < (t.l[j - 1]).1.l := by
        have := List.pairwise_iff_getElem.mp (List.pairwise_map.mp ht.fall) (j - 1) j hj2 hj (by omega)
        exact this
      have f7 := F7p s hs _ m1.1
      rw [decide_eq_true z, andT, a2, Option.map_some, Option.bind_some, ltD_tup _ _ (by omega), Option.bind_some, decide_eq_true lt, Bool.not_true, bO, if_neg Bool.false_ne_true, bN]
    · rw [decide_eq_false z, andFa, bO, if_neg Bool.false_ne_true, bN]
end Kt

set_option maxRecDepth 100000
set_option linter.all false
set_option Elab.async false
namespace Kt
open PySem PySem.Spec L2 Dn
theorem upto_get {n k : Nat} (h : k < n) : (upto 0 n)[k]? = some (k : Int) := by
  unfold upto
  rw [List.getElem?_map, List.getElem?_range h]
  show some (0 + (k : Int)) = _
  rw [Int.zero_add]
theorem mem_upto {n : Nat} {k : Int} : k ∈ upto 0 n ↔ 0 ≤ k ∧ k < n := by
  constructor
  · intro h
    have := upto_mem h
    omega
  · intro h
    obtain ⟨j, rfl⟩ := Int.eq_ofNat_of_zero_le h.1
    exact List.mem_of_getElem? (upto_get (by omega))
theorem upto_got {n k : Nat} {x : Int} (h : (upto 0 n)[k]? = some x) : x = (k : Int) ∧ k < n := by
  have hk := (List.getElem?_eq_some_iff.mp h).1
  rw [upto_len] at hk
  rw [upto_get hk] at h
  exact ⟨(Option.some.inj h).symm, hk⟩
theorem loop_ix {L R T α : Type} {f : α → T → Fl T T R} : ∀ {xs : List α} (I : Nat → T → Prop) {s : T}, (∀ (k : Nat) (x : α) (s : T), xs[k]? = some x → I k s → ∃ s', f x s = .nx s' ∧ I (k + 1) s') → I 0 s → ∃ s', (Fl.loop f xs s : Fl T L R) = .nx s' ∧ I xs.length s'
  | [], I, s, _, h => ⟨s, loop_nil f s, h⟩
  | x :: xs, I, s, hf, h => by
    obtain ⟨s1, e1, i1⟩ := hf 0 x s rfl h
    obtain ⟨s2, e2, i2⟩ := loop_ix (L := L) (xs := xs) (fun k => I (k + 1)) (s := s1) (fun k y t hy ht => hf (k + 1) y t hy ht) i1
    exact ⟨s2, (loop_cons e1 xs).trans e2, i2⟩
theorem fin_bind {S L R T : Type} {m : Fl T L R} {k : T → Fl S L R} {en : Option R} {Q : R → Prop} (P : T → Prop) (h : ∃ s', m = .nx s' ∧ P s') (hk : ∀ s', P s' → ∃ r, (k s').fin en = some r ∧ Q r) : ∃ r, (m.bind k).fin en = some r ∧ Q r := by
  obtain ⟨s', e, p⟩ := h
  rw [e, bN]
  exact hk s' p
theorem ix_fin {S L R T α : Type} {f : α → T → Fl T T R} (I : Nat → T → Prop) {xs : List α} {s : T} {k : T → Fl S L R} {en : Option R} {Q : R → Prop} (hf : ∀ (j : Nat) (x : α) (s : T), xs[j]? = some x → I j s → ∃ s', f x s = .nx s' ∧ I (j + 1) s') (h : I 0 s) (hk : ∀ s', I xs.length s' → ∃ r, (k s').fin en = some r ∧ Q r) : ∃ r, (Fl.bind (Fl.loop f xs s) k).fin en = some r ∧ Q r :=
  fin_bind (I xs.length) (loop_ix I hf h) hk
theorem atI_getD {α : Type} {xs : List α} {i : Int} (d : α) (h0 : 0 ≤ i) (h1 : i < xs.length) : atI xs i = some (xs.getD i.toNat d) := by
  obtain ⟨n, rfl⟩ := Int.eq_ofNat_of_zero_le h0
  have hn : n < xs.length := by omega
  rw [Int.toNat_natCast, List.getD_eq_getElem?_getD, List.getElem?_eq_getElem hn]
  exact atI_nat (List.getElem?_eq_getElem hn)
theorem getD_mem {α : Type} {xs : List α} {n : Nat} (d : α) (h : n < xs.length) : xs.getD n d ∈ xs := by
  rw [List.getD_eq_getElem?_getD, List.getElem?_eq_getElem h]
  exact List.getElem_mem h
abbrev Gt := Trp Str Str (Tup Str)
theorem mapO_ex {α β : Type} {h : α → Option β} {Q : α → β → Prop} : ∀ {xs : List α}, (∀ x ∈ xs, ∃ y, h x = some y ∧ Q x y) → ∃ ys, mapO h xs = some ys ∧ ys.length = xs.length ∧ ∀ (i : Nat) (x : α) (y : β), xs[i]? = some x → ys[i]? = some y → Q x y
  | [], _ => ⟨[], rfl, rfl, fun i x y h _ => nomatch h⟩
  | x :: xs, hh => by
    obtain ⟨y, e, q⟩ := hh x (List.mem_cons_self ..)
    obtain ⟨ys, es, l, qs⟩ := mapO_ex (xs := xs) fun z hz => hh z (List.mem_cons_of_mem _ hz)
    refine ⟨y :: ys, ?_, by rw [List.length_cons, List.length_cons, l], fun i a b ha hb => ?_⟩
    · show (h x).bind _ = _
      rw [e, Option.bind_some, es]
      rfl
    · cases i with
      | zero => cases ha; cases hb; exact q
      | succ i => exact qs i a b ha hb
def bit (v : Int) : Prop := v = 0 ∨ v = 1
def gv (k : Str) (vs : List Int) : Int := if k = ("not" : Str) then 1 - vs.getD 0 0 else if k = ("and" : Str) then (if vs.sum = 2 then 1 else 0) else if k = ("or" : Str) then (if 0 < vs.sum then 1 else 0) else (if vs.sum = 1 then 1 else 0)
def kin (d : DctS Int) (n : Str) : Int := (d.get n).getD 0
def stepF (d : DctS Int) (g : Gt) : DctS Int := d.put g.x1 (gv g.x2 (g.x3.l.map (kin d)))
def ok1 (kn : List Str) (g : Gt) : Prop := (g.x2 = ("not" : Str) ∧ ∃ a, g.x3.l = [a] ∧ a ∈ kn) ∨ ((g.x2 = ("and" : Str) ∨ g.x2 = ("or" : Str) ∨ g.x2 = ("xor" : Str)) ∧ ∃ a b, g.x3.l = [a, b] ∧ a ∈ kn ∧ b ∈ kn)
def OkGs : List Str → List Gt → Prop
  | _, [] => True
  | kn, g :: gs => ok1 kn g ∧ OkGs (kn ++ [g.x1]) gs
theorem okGs_snoc : ∀ {gs : List Gt} {kn : List Str} {g : Gt}, OkGs kn gs → ok1 (kn ++ gs.map (·.x1)) g → OkGs kn (gs ++ [g])
  | [], kn, g, _, h => ⟨by rw [List.map_nil, List.append_nil] at h; exact h, trivial⟩
  | a :: gs, kn, g, h, h2 => ⟨h.1, okGs_snoc h.2 (by rw [List.append_assoc]; exact h2)⟩
def fnd (t : Str) (l : List (Str × Int)) : Option Int := (l.find? fun p => decide (p.1 = t)).map (·.2)
theorem fnd_cons (t : Str) (p : Str × Int) (l : List (Str × Int)) : fnd t (p :: l) = if p.1 = t then some p.2 else fnd t l := by
  unfold fnd
  rw [List.find?_cons]
  by_cases e : p.1 = t
  · rw [decide_eq_true e, if_pos e]; rfl
  · rw [decide_eq_false e, if_neg e]
theorem fnd_map (k : Str) (v : Int) (t : Str) : ∀ l : List (Str × Int), fnd t (l.map fun p => if p.1 = k then (p.1, v) else p) = if t = k then (if (l.any fun p => decide (p.1 = k)) = true then some v else none) else fnd t l
  | [] => by
    show (none : Option Int) = if t = k then (if false = true then some v else none) else none
    split <;> rfl
  | p :: l => by
    rw [List.map_cons, fnd_cons, fnd_cons, fnd_map k v t l, List.any_cons]
    by_cases e : p.1 = k
    · rw [if_pos e, decide_eq_true e, Bool.true_or, if_pos rfl]
      by_cases z : t = k
      · rw [if_pos (show (p.1, v).1 = t by rw [z]; exact e), if_pos z]
      · rw [if_neg z, if_neg (show ¬ (p.1, v).1 = t from fun q => z (by rw [← q]; exact e)), if_neg (show ¬ p.1 = t from fun q => z (by rw [← q]; exact e)), if_neg z]
    · rw [if_neg e, decide_eq_false e, Bool.false_or]
      by_cases z : t = k
      · rw [if_neg (show ¬ p.1 = t from fun q => e (by rw [q]; exact z)), if_pos z, if_pos z]
      · rw [if_neg z, if_neg z]
theorem fnd_app (k : Str) (v : Int) (t : Str) : ∀ l : List (Str × Int), (l.any fun p => decide (p.1 = k)) = false → fnd t (l ++ [(k, v)]) = if t = k then some v else fnd t l
  | [], _ => by
    rw [List.nil_append, fnd_cons]
    by_cases e : t = k
    · rw [if_pos e, if_pos (show (k, v).1 = t from e.symm)]
    · rw [if_neg e, if_neg (show ¬ (k, v).1 = t from fun q => e q.symm)]
  | p :: l, h => by
    rw [List.any_cons, Bool.or_eq_false_iff] at h
    rw [List.cons_append, fnd_cons, fnd_cons, fnd_app k v t l h.2]
    have e : ¬ p.1 = k := of_decide_eq_false h.1
    by_cases z : t = k
    · rw [if_neg (show ¬ p.1 = t from fun q => e (by rw [q]; exact z)), if_pos z, if_pos z]
    · rw [if_neg z, if_neg z]
theorem DctS.get_put (d : DctS Int) (k : Str) (v : Int) (t : Str) : (d.put k v).get t = if t = k then some v else d.get t := by
  have g : ∀ d : DctS Int, d.get t = fnd t d.l := fun _ => rfl
  unfold DctS.put
  cases q : d.has k with
  | true =>
    have q : (d.l.any fun p => decide (p.1 = k)) = true := q
    rw [if_pos rfl, g, g, fnd_map, q, if_pos rfl]
  | false =>
    rw [if_neg Bool.false_ne_true, g, g]
    exact fnd_app k v t d.l q
def KB (d : DctS Int) (kn : List Str) : Prop := ∀ n ∈ kn, d.get n = some (kin d n) ∧ bit (kin d n)
theorem KB.put {d : DctS Int} {kn : List Str} (h : KB d kn) {k : Str} {v : Int} (hv : bit v) : KB (d.put k v) (kn ++ [k]) := fun n hn => by
  unfold kin
  rw [DctS.get_put]
  by_cases e : n = k
  · rw [if_pos e]; exact ⟨rfl, hv⟩
  · rw [if_neg e]
    rcases List.mem_append.mp hn with hn | hn
    · exact h n hn
    · exact absurd (List.mem_singleton.mp hn) e
theorem gv_bit {d : DctS Int} {kn : List Str} (h : KB d kn) {g : Gt} (o : ok1 kn g) : bit (gv g.x2 (g.x3.l.map (kin d))) := by
  unfold gv
  rcases o with ⟨k, a, e, ma⟩ | ⟨k, a, b, e, ma, mb⟩
  · rw [if_pos k, e]
    show bit (1 - kin d a)
    rcases (h a ma).2 with z | z <;> rw [z]
    · exact .inr rfl
    · exact .inl rfl
  · split
    · rename_i z
      rw [z] at k
      rcases k with k | k | k <;> exact absurd k (by decide)
    · split
      · split
        · exact .inr rfl
        · exact .inl rfl
      · split
        · split
          · exact .inr rfl
          · exact .inl rfl
        · split
          · exact .inr rfl
          · exact .inl rfl
def runG (d : DctS Int) (gs : List Gt) : DctS Int := gs.foldl stepF d
theorem runG_ok : ∀ {gs : List Gt} {d : DctS Int} {kn : List Str}, KB d kn → OkGs kn gs → KB (runG d gs) (kn ++ gs.map (·.x1))
  | [], d, kn, h, _ => by rw [List.map_nil, List.append_nil]; exact h
  | g :: gs, d, kn, h, o => by
    have := runG_ok (gs := gs) (h.put (k := g.x1) (gv_bit h o.1)) o.2
    rw [List.append_assoc] at this
    exact this
theorem runG_len : ∀ (gs : List Gt) (d : DctS Int), (runG d gs).l.length ≤ d.l.length + gs.length
  | [], d => Nat.le_refl _
  | g :: gs, d => by
    have a := runG_len gs (stepF d g)
    have b := DctS.put_len d g.x1 (gv g.x2 (g.x3.l.map (kin d)))
    show (runG (stepF d g) gs).l.length ≤ _
    rw [List.length_cons]
    have b : (stepF d g).l.length ≤ d.l.length + 1 := b
    omega
def putAll (d : DctS Int) (xs : List (Str × Int)) : DctS Int := xs.foldl (fun d q => d.put q.1 q.2) d
theorem putAll_ok : ∀ {xs : List (Str × Int)} {d : DctS Int} {kn : List Str}, KB d kn → (∀ q ∈ xs, bit q.2) → KB (putAll d xs) (kn ++ xs.map (·.1))
  | [], d, kn, h, _ => by rw [List.map_nil, List.append_nil]; exact h
  | q :: xs, d, kn, h, o => by
    have := putAll_ok (xs := xs) (h.put (k := q.1) (o q (List.mem_cons_self ..))) fun z hz => o z (List.mem_cons_of_mem _ hz)
    rw [List.append_assoc] at this
    exact this
theorem putAll_len : ∀ (xs : List (Str × Int)) (d : DctS Int), (putAll d xs).l.length ≤ d.l.length + xs.length
  | [], d => Nat.le_refl _
  | q :: xs, d => by
    have a := putAll_len xs (d.put q.1 q.2)
    have b := DctS.put_len d q.1 q.2
    show (putAll (d.put q.1 q.2) xs).l.length ≤ _
    rw [List.length_cons]
    omega
theorem dcsO_all : ∀ (xs : List (Str × Int)) (d : DctS Int), dcsO (fun i : Str × Int => some i.1) (fun i : Str × Int => some i.2) xs d = some (putAll d xs)
  | [], d => rfl
  | q :: xs, d => dcsO_all xs (d.put q.1 q.2)
def d0 (ins : List Str) (b : Tup Int) : DctS Int := putAll ⟨[]⟩ (ins.zip b.l)
def outF (ins : List Str) (gs : List Gt) (outs : List Str) (b : Tup Int) : List Int := outs.map (kin (runG (d0 ins b) gs))
structure CW (ins : List Str) (gs : List Gt) (outs : List Str) : Prop where
  li : ins.length ≤ 5
  lg : gs.length ≤ 100
  lo : outs.length ≤ 100
  og : OkGs ins gs
  oo : ∀ n ∈ outs, n ∈ ins ++ gs.map (·.x1)
theorem kb_nil : KB ⟨[]⟩ [] := fun _ h => nomatch h
theorem zip_fst : ∀ {ins : List Str} {l : List Int}, ins.length = l.length → (ins.zip l).map (·.1) = ins
  | [], [], _ => rfl
  | a :: ins, v :: l, h => by
    rw [List.zip_cons_cons, List.map_cons, zip_fst (Nat.succ.inj h)]
theorem d0_ok {ins : List Str} {b : Tup Int} (h : ins.length = b.l.length) (hb : ∀ v ∈ b.l, bit v) : KB (d0 ins b) ins := by
  have := putAll_ok (xs := ins.zip b.l) kb_nil (fun q hq => hb _ (List.of_mem_zip hq).2)
  rw [zip_fst h] at this
  exact this
theorem gate_ok {d : DctS Int} {kn : List Str} (h : KB d kn) {g : Gt} (o : ok1 kn g) : m_gate_output g.x2 (g.x3.l.map (kin d)) = some (gv g.x2 (g.x3.l.map (kin d))) := by
  unfold m_gate_output fl_gate_output gv
  rcases o with ⟨k, a, e, ma⟩ | ⟨k, a, b, e, ma, mb⟩
  · rw [k, e]
    rfl
  · have ha := (h a ma).2
    have hb := (h b mb).2
    have e2 : g.x3.l.map (kin d) = [kin d a, kin d b] := by rw [e]; rfl
    rw [e2]
    generalize kin d a = u at ha
    generalize kin d b = v at hb
    rcases k with k | k | k <;> rw [k] <;> rcases ha with rfl | rfl <;> rcases hb with rfl | rfl <;> decide +kernel
theorem runG_snoc (d : DctS Int) (gs : List Gt) (g : Gt) : runG d (gs ++ [g]) = stepF (runG d gs) g := by
  unfold runG
  rw [List.foldl_append]
  rfl
theorem okGs_at : ∀ {gs : List Gt} {kn : List Str} {i : Nat} {g : Gt}, OkGs kn gs → gs[i]? = some g → ok1 (kn ++ (gs.take i).map (·.x1)) g ∧ OkGs kn (gs.take i)
  | a :: gs, kn, 0, g, h, e => by
    cases e
    exact ⟨by rw [List.take_zero, List.map_nil, List.append_nil]; exact h.1, trivial⟩
  | a :: gs, kn, i + 1, g, h, e => by
    have := okGs_at (gs := gs) h.2 (i := i) e
    rw [List.append_assoc] at this
    exact ⟨this.1, h.1, this.2⟩
theorem known_ok {d : DctS Int} {kn : List Str} (h : KB d kn) {xs : List Str} (hx : ∀ x ∈ xs, x ∈ kn) : mapO (fun i : Str => d.get i) xs = some (xs.map (kin d)) := mapO_val fun x m => (h x (hx x m)).1
theorem outputs_ok {G : Addr} {ins : List Str} {gs : List Gt} {outs : List Str} (W : CW ins gs outs) {b : Tup Int} (h : ins.length = b.l.length) (hb : ∀ v ∈ b.l, bit v) : m_outputs_at (⟨ins, gs, outs⟩ : CirD G) b = some (outF ins gs outs b) := by
  have lz : (ins.zip b.l).length ≤ 5 := by rw [List.length_zip]; have := W.li; omega
  have K0 := d0_ok h hb
  suffices hh : ∃ r, m_outputs_at (⟨ins, gs, outs⟩ : CirD G) b = some r ∧ r = outF ins gs outs b by
    obtain ⟨r, e, rfl⟩ := hh
    exact e
  unfold m_outputs_at fl_outputs_at
  simp -implicitDefEqProofs only [Option.bind_some]
  rw [capI_ok (by show (ins.zip b.l).length ≤ _; omega), Option.bind_some, dcsO_all, bO, bO]
  refine ix_fin (fun k (d : DctS Int) => d = runG (d0 ins b) (gs.take k)) (fun k g d hk hd => ?_) rfl fun d hd => ?_
  · obtain ⟨o1, o2⟩ := okGs_at W.og hk
    have K1 := runG_ok K0 o2
    rw [← hd] at K1
    have k1 := (List.getElem?_eq_some_iff.mp hk).1
    have len : d.l.length ≤ 200 := by
      have a := runG_len (gs.take k) (d0 ins b)
      have c := putAll_len (ins.zip b.l) (⟨[]⟩ : DctS Int)
      have c : (d0 ins b).l.length ≤ 0 + (ins.zip b.l).length := c
      have e : (gs.take k).length ≤ 100 := by rw [List.length_take]; have := W.lg; omega
      rw [hd]
      omega
    have mem : ∀ x ∈ g.x3.l, x ∈ ins ++ (gs.take k).map (·.x1) := fun x hx => by
      rcases o1 with ⟨_, a, e, ma⟩ | ⟨_, a, c, e, ma, mc⟩
      · rw [e] at hx; rw [List.mem_singleton.mp hx]; exact ma
      · rw [e] at hx
        rcases List.mem_cons.mp hx with rfl | hx
        · exact ma
        · rw [List.mem_singleton.mp hx]; exact mc
    have l3 : g.x3.l.length ≤ 2 := by
      rcases o1 with ⟨_, a, e, ma⟩ | ⟨_, a, c, e, ma, mc⟩ <;> rw [e]
      · show 1 ≤ 2; omega
      · show 2 ≤ 2; omega
    have tk : gs.take (k + 1) = gs.take k ++ [g] := by rw [List.take_add_one, hk]; rfl
    rw [capI_ok (by omega), Option.bind_some, known_ok K1 mem, Option.bind_some, gate_ok K1 o1, bO, bO, if_pos (len1_of (by omega))]
    refine ⟨_, rfl, ?_⟩
    rw [tk, runG_snoc, ← hd]
    rfl
  · rw [List.take_length] at hd
    have K1 := runG_ok K0 W.og
    rw [← hd] at K1
    rw [capI_ok (by have := W.lo; show outs.length ≤ _; omega), Option.bind_some, known_ok K1 W.oo, bO]
    exact ⟨_, rfl, by rw [hd]; rfl⟩
end Kt

set_option maxRecDepth 100000
set_option linter.all false
set_option Elab.async false
namespace Kt
open PySem PySem.Spec L2 Dn
theorem ite_dec {P : Prop} [Decidable P] (a b : Int) : (if decide P = true then a else b) = if P then a else b := by
  by_cases h : P
  · rw [if_pos (decide_eq_true h), if_pos h]
  · rw [if_neg (fun z => h (of_decide_eq_true z)), if_neg h]
theorem putAll_snoc (d : DctS Int) (xs : List (Str × Int)) (q : Str × Int) : putAll d (xs ++ [q]) = (putAll d xs).put q.1 q.2 := by
  unfold putAll
  rw [List.foldl_append]
  rfl
theorem law_outputs_ok {ins : List Str} {gs : List Gt} {outs : List Str} (W : CW ins gs outs) {b : Tup Int} (h : ins.length = b.l.length) (hb : ∀ v ∈ b.l, bit v) : m_law_outputs ⟨ins, gs, outs⟩ b = some (outF ins gs outs b) := by
  have K0 := d0_ok h hb
  have li := W.li
  have lz : (ins.zip b.l).length = b.l.length := by rw [List.length_zip]; omega
  suffices hh : ∃ r, m_law_outputs ⟨ins, gs, outs⟩ b = some r ∧ r = outF ins gs outs b by
    obtain ⟨r, e, rfl⟩ := hh
    exact e
  unfold m_law_outputs fl_law_outputs
  simp -implicitDefEqProofs only [Option.bind_some]
  rw [rangeI_ok (by omega) (by omega), bO, Int.toNat_natCast]
  refine ix_fin (fun k (d : DctS Int) => d = putAll ⟨[]⟩ ((ins.zip b.l).take k)) (fun k i d hk hd => ?_) rfl fun d hd => ?_
  · obtain ⟨rfl, k1⟩ := upto_got hk
    have k2 : k < ins.length := by omega
    have a1 : atI b.l (k : Int) = some b.l[k] := atI_nat (List.getElem?_eq_getElem k1)
    have a2 : atI ins (k : Int) = some ins[k] := atI_nat (List.getElem?_eq_getElem k2)
    have tk : (ins.zip b.l).take (k + 1) = (ins.zip b.l).take k ++ [(ins[k], b.l[k])] := by
      rw [List.take_add_one, List.getElem?_eq_getElem (by omega), List.getElem_zip]
      rfl
    have len : d.l.length ≤ 100 := by
      have c := putAll_len ((ins.zip b.l).take k) (⟨[]⟩ : DctS Int)
      rw [List.length_take] at c
      rw [hd]
      have c : (putAll ⟨[]⟩ ((ins.zip b.l).take k)).l.length ≤ 0 + min k (ins.zip b.l).length := c
      omega
    rw [a1, bO, a2, bO, if_pos (len1_of (by omega))]
    refine ⟨_, rfl, ?_⟩
    rw [tk, putAll_snoc, ← hd]
  · rw [upto_len, ← lz, List.take_length] at hd
    have hd : d = d0 ins b := hd
    rw [bO]
    refine ix_fin (fun k (d : DctS Int) => d = runG (d0 ins b) (gs.take k)) (fun k g d hk hd => ?_) hd fun d hd => ?_
    · obtain ⟨o1, o2⟩ := okGs_at W.og hk
      have K1 := runG_ok K0 o2
      rw [← hd] at K1
      have k1 := (List.getElem?_eq_some_iff.mp hk).1
      have len : d.l.length ≤ 200 := by
        have a := runG_len (gs.take k) (d0 ins b)
        have c := putAll_len (ins.zip b.l) (⟨[]⟩ : DctS Int)
        have c : (d0 ins b).l.length ≤ 0 + (ins.zip b.l).length := c
        have e : (gs.take k).length ≤ 100 := by rw [List.length_take]; have := W.lg; omega
        rw [hd]
        omega
      have L : len1 d.l.length = true := len1_of (by omega)
      have mem : ∀ x ∈ g.x3.l, x ∈ ins ++ (gs.take k).map (·.x1) := fun x hx => by
        rcases o1 with ⟨_, a, e, ma⟩ | ⟨_, a, c, e, ma, mc⟩
        · rw [e] at hx; rw [List.mem_singleton.mp hx]; exact ma
        · rw [e] at hx
          rcases List.mem_cons.mp hx with rfl | hx
          · exact ma
          · rw [List.mem_singleton.mp hx]; exact mc
      have l3 : g.x3.l.length ≤ 2 := by
        rcases o1 with ⟨_, a, e, ma⟩ | ⟨_, a, c, e, ma, mc⟩ <;> rw [e]
        · show 1 ≤ 2; omega
        · show 2 ≤ 2; omega
      have tk : gs.take (k + 1) = gs.take k ++ [g] := by rw [List.take_add_one, hk]; rfl
      have fin : d.put g.x1 (gv g.x2 (g.x3.l.map (kin d))) = runG (d0 ins b) (gs.take (k + 1)) := by
        rw [tk, runG_snoc, ← hd]
        rfl
      rw [capI_ok (by omega), Option.bind_some, known_ok K1 mem, bO, bO]
      have nf : ∀ {a b : Str}, a ≠ b → g.x2 = a → decide (g.x2 = b) = false := fun n e => by rw [e]; exact decide_eq_false n
      rcases o1 with ⟨kk, a, e, ma⟩ | ⟨kk | kk | kk, a, c, e, ma, mc⟩
      · have e2 : atI (g.x3.l.map (kin d)) (0 : Int) = some ((g.x3.l.map (kin d)).getD 0 0) := by rw [e]; rfl
        rw [decide_eq_true kk, if_pos rfl, e2, Option.bind_some, bO, bO, if_pos L, bN]
        refine ⟨_, rfl, ?_⟩
        rw [← fin]
        unfold gv
        rw [if_pos kk]
      · rw [nf (by decide) kk, if_neg Bool.false_ne_true, bO, decide_eq_true kk, if_pos rfl, bO, bO, if_pos L, bN, bN]
        refine ⟨_, rfl, ?_⟩
        rw [← fin]
        unfold gv
        rw [ite_dec, if_neg (show ¬ g.x2 = ("not" : Str) by rw [kk]; decide), if_pos kk]
      · rw [nf (by decide) kk, if_neg Bool.false_ne_true, bO, nf (by decide) kk, if_neg Bool.false_ne_true, bO, decide_eq_true kk, if_pos rfl, bO, bO, if_pos L, bN, bN, bN]
        refine ⟨_, rfl, ?_⟩
        rw [← fin]
        unfold gv
        rw [ite_dec, if_neg (show ¬ g.x2 = ("not" : Str) by rw [kk]; decide), if_neg (show ¬ g.x2 = ("and" : Str) by rw [kk]; decide), if_pos kk]
      · rw [nf (by decide) kk, if_neg Bool.false_ne_true, bO, nf (by decide) kk, if_neg Bool.false_ne_true, bO, nf (by decide) kk, if_neg Bool.false_ne_true, bO, bO, if_pos L, bN, bN, bN]
        refine ⟨_, rfl, ?_⟩
        rw [← fin]
        unfold gv
        rw [ite_dec, if_neg (show ¬ g.x2 = ("not" : Str) by rw [kk]; decide), if_neg (show ¬ g.x2 = ("and" : Str) by rw [kk]; decide), if_neg (show ¬ g.x2 = ("or" : Str) by rw [kk]; decide)]
    · rw [List.take_length] at hd
      have K1 := runG_ok K0 W.og
      rw [← hd] at K1
      rw [capI_ok (by have := W.lo; show outs.length ≤ _; omega), Option.bind_some, known_ok K1 W.oo, bO]
      exact ⟨_, rfl, by rw [hd]; rfl⟩
theorem cut_take {α : Type} {xs : List α} {n : Int} (h0 : 0 ≤ n) (h1 : n ≤ xs.length) : cutG xs (none : Option Int) (some n) = xs.take n.toNat := by
  obtain ⟨m, rfl⟩ := Int.eq_ofNat_of_zero_le h0
  unfold cutG
  rw [HT.sIx_none, HT.sIx_nat, List.drop_zero, Int.toNat_natCast]
  congr 1
  omega
theorem kinds : ∀ k ∈ ([("not" : Str), ("and" : Str), ("or" : Str), ("xor" : Str)] : List Str), (k = ("not" : Str)) ∨ (k ≠ ("not" : Str) ∧ (k = ("and" : Str) ∨ k = ("or" : Str) ∨ k = ("xor" : Str))) := by decide
theorem law_circuit_ok (cell : Int) {nm : List Str} (ln : nm.length = 18) {n : Int} (n1 : 1 ≤ n) (n5 : n ≤ 5) : ∃ gs outs, m_law_circuit cell nm n = some ⟨nm.take n.toNat, gs, outs⟩ ∧ CW (nm.take n.toNat) gs outs ∧ gs.length ≤ 12 ∧ 1 ≤ outs.length := by
  suffices hh : ∃ r, m_law_circuit cell nm n = some r ∧ ∃ gs outs, r = ⟨nm.take n.toNat, gs, outs⟩ ∧ CW (nm.take n.toNat) gs outs ∧ gs.length ≤ 12 ∧ 1 ≤ outs.length by
    obtain ⟨r, e, gs, outs, rfl, w⟩ := hh
    exact ⟨gs, outs, e, w⟩
  obtain ⟨ds, ed, ld, hd⟩ := digits_ok cell (many := 5040) (count := 64) (by decide) (by decide) (by decide) (by decide)
  have at_ : ∀ {i : Int}, 0 ≤ i → i < 64 → ∃ v, atI ds i = some v ∧ 0 ≤ v ∧ v < 5040 := fun {i} h0 h1 => by
    obtain ⟨v, e, m⟩ := atI_ge (xs := ds) (i := i) h0 (by omega)
    exact ⟨v, e, hd v m⟩
  obtain ⟨v0, e0, r0⟩ := at_ (i := 0) (by decide) (by decide)
  obtain ⟨v55, e55, r55⟩ := at_ (i := 55) (by decide) (by decide)
  have li : (nm.take n.toNat).length = n.toNat := by rw [List.length_take]; omega
  unfold m_law_circuit fl_law_circuit
  simp -implicitDefEqProofs only [Option.bind_some, Option.map_some]
  rw [ed, bO, bO, bO, e0, Option.bind_some, Option.bind_some, modI_ok (by decide), Option.bind_some, rangeI_ok (by omega) (by omega), bO, cut_take (by omega) (by omega)]
  generalize nm.take n.toNat = ins at li
  refine ix_fin (fun k (st : List Str × List Gt) => ∃ gs, st = (ins ++ gs.map (·.x1), gs) ∧ gs.length = k ∧ OkGs ins gs) (fun k i st hk hst => ?_) ⟨[], by rw [List.map_nil, List.append_nil], rfl, trivial⟩ fun st hst => ?_
  · obtain ⟨gs, rfl, lg, og⟩ := hst
    obtain ⟨rfl, k1⟩ := upto_got hk
    dsimp only
    have lk : ((ins ++ gs.map (·.x1)).length : Int) = n + k := by rw [List.length_append, List.length_map]; omega
    generalize hkn : ins ++ gs.map (·.x1) = kn at lk
    obtain ⟨v1, e1, r1⟩ := at_ (i := 4 * (k : Int) + 1) (by omega) (by omega)
    obtain ⟨kd, ek, mk⟩ := atI_ge (xs := ([("not" : Str), ("and" : Str), ("or" : Str), ("xor" : Str)] : List Str)) (i := v1 % 4) (Int.emod_nonneg _ (by decide)) (Int.emod_lt_of_pos _ (by decide))
    have kc := kinds kd mk
    obtain ⟨nx, en⟩ : ∃ x, atI nm (n + (k : Int)) = some x := by
      obtain ⟨x, e, _⟩ := atI_ge (xs := nm) (i := n + (k : Int)) (by omega) (by omega)
      exact ⟨x, e⟩
    have cw : ∃ c : Int, (1 : Int) + (if (!decide (kd = ("not" : Str))) = true then (1 : Int) else 0) = c ∧ 1 ≤ c ∧ c ≤ 2 ∧ (kd = ("not" : Str) → c = 1) ∧ (kd ≠ ("not" : Str) → c = 2) := by
      by_cases z : kd = ("not" : Str)
      · exact ⟨1, by rw [decide_eq_true z]; rfl, by decide, by decide, fun _ => rfl, fun q => absurd z q⟩
      · exact ⟨2, by rw [decide_eq_false z]; rfl, by decide, by decide, fun q => absurd q z, fun _ => rfl⟩
    obtain ⟨c, ec, c1, c2, cn, cm⟩ := cw
    have ops : ∃ ys, mapO (fun (i : Int) => ((((atI ds (4 * (k : Int) + 2 + i)).bind fun v => some v).bind fun v => (modI v (kn.length : Int)))).bind fun v => atI kn v) (upto 0 c.toNat) = some ys ∧ ys.length = (upto 0 c.toNat).length ∧ ∀ y ∈ ys, y ∈ kn := mapO_all (fun y => y ∈ kn) _ fun i hi => by
      have hi := upto_mem hi
      obtain ⟨v, e, r⟩ := at_ (i := 4 * (k : Int) + 2 + i) (by omega) (by omega)
      obtain ⟨x, ex, mx⟩ := atI_ge (xs := kn) (i := v % (kn.length : Int)) (Int.emod_nonneg _ (by omega)) (Int.emod_lt_of_pos _ (by omega))
      rw [e, Option.bind_some, Option.bind_some, modI_ok (by omega), Option.bind_some]
      exact ⟨x, ex, mx⟩
    obtain ⟨ys, ey, ly, my⟩ := ops
    rw [upto_len] at ly
    have o1 : ok1 kn (⟨nx, kd, ⟨ys⟩⟩ : Gt) := by
      rcases kc with z | ⟨z, z2⟩
      · have : ys.length = 1 := by have := cn z; omega
        match ys, this with
        | [a], _ => exact .inl ⟨z, a, rfl, my a (List.mem_cons_self ..)⟩
      · have : ys.length = 2 := by have := cm z; omega
        match ys, this with
        | [a, b], _ => exact .inr ⟨z2, a, b, rfl, my a (List.mem_cons_self ..), my b (List.mem_cons_of_mem _ (List.mem_cons_self ..))⟩
    rw [mulL (by decide) (by decide)]
    simp -implicitDefEqProofs only [Option.bind_some]
    have lg2 : gs.length ≤ 100000 := by omega
    have lk2 : kn.length ≤ 100000 := by omega
    rw [e1, Option.bind_some, Option.bind_some, modI_ok (by decide), Option.bind_some, ek, bO, ec, rangeI_ok (by omega) (by omega), Option.bind_some, capI_ok (by rw [upto_len]; omega), Option.bind_some, ey, bO, en, Option.bind_some, bO, if_pos (len1_of lg2), bO, if_pos (len1_of lk2)]
    exact ⟨_, rfl, gs ++ [⟨nx, kd, ⟨ys⟩⟩], by rw [← hkn, List.map_append, List.append_assoc]; rfl, by rw [List.length_append, lg]; rfl, okGs_snoc og (by rw [hkn]; exact o1)⟩
  · obtain ⟨gs, rfl, lg, og⟩ := hst
    rw [upto_len] at lg
    dsimp only
    have lk : ((ins ++ gs.map (·.x1)).length : Int) = n + gs.length := by rw [List.length_append, List.length_map]; omega
    generalize hkn : ins ++ gs.map (·.x1) = kn at lk
    have m0 := Int.emod_nonneg v55 (show (4 : Int) ≠ 0 by decide)
    have m1 := Int.emod_lt_of_pos v55 (show (0 : Int) < 4 by decide)
    have cl := cutG_len (xs := ds) (a := 56) (b := 57 + v55 % 4) (by decide) (by omega) (by omega)
    have cs := cutG_sub ds (some (56 : Int)) (some (57 + v55 % 4))
    generalize hcs : cutG ds (some (56 : Int)) (some (57 + v55 % 4)) = sl at cs cl
    obtain ⟨q, hq, q1, q2⟩ : ∃ q : Int, (if (kn.length : Int) < 3 then (kn.length : Int) else 3) = q ∧ 1 ≤ q ∧ q ≤ kn.length := by
      by_cases z : (kn.length : Int) < 3
      · exact ⟨_, if_pos z, by omega, by omega⟩
      · exact ⟨_, if_neg z, by omega, by omega⟩
    have la : ∃ ys, mapO (fun (i : Int) => (modI i q).bind fun v => some ((kn.length : Int) - 1 - v)) sl = some ys ∧ ys.length = sl.length ∧ ∀ y ∈ ys, 0 ≤ y ∧ y < (kn.length : Int) := mapO_all (fun y => 0 ≤ y ∧ y < (kn.length : Int)) _ fun i hi => by
      have a := Int.emod_nonneg i (show q ≠ 0 by omega)
      have b := Int.emod_lt_of_pos i (show 0 < q by omega)
      rw [modI_ok (by omega), Option.bind_some]
      exact ⟨_, rfl, by omega, by omega⟩
    obtain ⟨la, ela, lla, hla⟩ := la
    have os : ∃ ys, mapO (fun (i : Int) => atI kn i) la = some ys ∧ ys.length = la.length ∧ ∀ y ∈ ys, y ∈ kn := mapO_all (fun y => y ∈ kn) _ fun i hi => by
      obtain ⟨x, ex, mx⟩ := atI_ge (xs := kn) (i := i) (hla i hi).1 (hla i hi).2
      exact ⟨x, ex, mx⟩
    obtain ⟨outs, eo, lo, ho⟩ := os
    have ls : sl.length ≤ 64 := by have := cs.1; omega
    rw [e55, Option.bind_some, Option.bind_some, modI_ok (by decide), Option.bind_some, Option.map_some, Option.bind_some, hcs, Option.bind_some, capI_ok (by omega), Option.bind_some, hq, ela, bO, capI_ok (by omega), Option.bind_some, eo, bO, bO]
    refine ⟨_, rfl, gs, outs, rfl, ⟨by omega, by omega, by omega, og, fun x hx => ?_⟩, by omega, by omega⟩
    rw [hkn]
    exact ho x hx
def menu18 : List Str := [("a" : Str), ("b" : Str), ("not" : Str), ("c1" : Str), ("and" : Str), ("x" : Str), ("or" : Str), ("d" : Str), ("inputs" : Str), ("e" : Str), ("xor" : Str), ("f" : Str), ("outputs" : Str), ("verylongname" : Str), ("g" : Str), ("h2" : Str), ("k" : Str), ("m" : Str)]
def steps4 : List Int := [1, 5, 7, 11]
def nmG (st sp : Int) : Option (List Str) := (rangeI (18 : Int)).bind fun xs => (capI xs).bind fun xs => mapO (fun (i : Int) => ((((mulI sp i).bind fun v => some (st + v)).bind fun v => some v).bind fun v => (modI v (18 : Int))).bind fun v => (atI menu18 v)) xs
theorem G1 : ∀ st ∈ List.range 18, ∀ sp ∈ steps4, (nmG (st : Int) sp).bind (fun ns => some (decide (ns.length = 18) && (SH.all fun s => (match m_make_a_space 2 (ns.take s.2.toNat) with | some b => b | none => false)))) = some true := by decide +kernel
theorem gate_names_ok (v : Int) : ∃ ns, m_law_gate_names v = some ns ∧ ns.length = 18 ∧ ∀ s ∈ SH, m_make_a_space 2 (ns.take s.2.toNat) = some true := by
  unfold m_law_gate_names fl_law_gate_names
  simp -implicitDefEqProofs only [Option.bind_some]
  obtain ⟨sp, e, m⟩ := atI_ge (xs := steps4) (i := v / 18 % 4) (Int.emod_nonneg _ (by decide)) (Int.emod_lt_of_pos _ (by decide))
  unfold steps4 at e
  rw [bO, if_pos (len1_of (by show 18 ≤ 100000; decide)), bO, modI_ok (by decide), bO, divI_ok (by decide) (by decide), Option.bind_some, Option.bind_some, modI_ok (by decide), Option.bind_some, e, bO]
  have n0 : 0 ≤ v % 18 := Int.emod_nonneg _ (by decide)
  have n1 : v % 18 < 18 := Int.emod_lt_of_pos _ (by decide)
  have e8 : v % 18 = ((v % 18).toNat : Int) := by omega
  have g := G1 (v % 18).toNat (List.mem_range.mpr (by omega)) sp m
  rw [← e8] at g
  obtain ⟨ns, en, g⟩ := bind_some g
  have g := Option.some.inj g
  rw [Bool.and_eq_true, List.all_eq_true] at g
  refine ⟨ns, ?_, of_decide_eq_true g.1, fun s hs => ?_⟩
  · unfold nmG at en
    show Fl.fin none (Fl.bindO ((rangeI (18 : Int)).bind fun xs => (capI xs).bind fun xs => mapO (fun (i : Int) => ((((mulI sp i).bind fun v_1 => some (v % 18 + v_1)).bind fun v => some v).bind fun v => (modI v (18 : Int))).bind fun v => (atI menu18 v)) xs) _) = _
    rw [en, bO]
    rfl
  · have := g.2 s hs
    cases q : m_make_a_space 2 (ns.take s.2.toNat) with
    | none => rw [q] at this; cases this
    | some b => rw [q] at this; exact congrArg some this
theorem FB : ∀ s ∈ SH, s.1 = 2 ∧ ∀ a ∈ TT s, ∀ v ∈ a.l, v = 0 ∨ v = 1 := by decide +kernel
theorem out_bit {ins : List Str} {gs : List Gt} {outs : List Str} (W : CW ins gs outs) {b : Tup Int} (h : ins.length = b.l.length) (hb : ∀ v ∈ b.l, bit v) : ∀ v ∈ outF ins gs outs b, bit v := fun v hv => by
  obtain ⟨n, hn, rfl⟩ := List.mem_map.mp hv
  exact (runG_ok (d0_ok h hb) W.og n (W.oo n hn)).2
theorem polys_ok {C G : Addr} {s : Int × Int} (hs : s ∈ SH) {ins : List Str} {gs : List Gt} {outs : List Str} (W : CW ins gs outs) (li : (ins.length : Int) = s.2) (mk : m_make_a_space 2 ins = some true) : ∃ ts, m_polynomials_of (C := C) (⟨ins, gs, outs⟩ : CirD G) = some ts ∧ ts.length = outs.length ∧ (∀ t ∈ ts, PolT (TT s) s.1 t) ∧ ∀ b ∈ TT s, ts.map (fun t => EV s.1 (pw s.1) t b) = outF ins gs outs b := by
  obtain ⟨s2, fb⟩ := FB s hs
  have f8 := F8 s hs
  have hsp := space_ok C hs (ns := ins) (by rw [s2]; exact mk) li
  rw [s2] at hsp
  have h1 : SpT s (⟨2, ins, s.2, TT s⟩ : SpaceD C) := ⟨⟨hs, s2.symm, rfl⟩, rfl⟩
  have p1 : m_points (⟨2, ins, s.2, TT s⟩ : SpaceD C) = some (TT s) := rfl
  have pt : ∀ b ∈ TT s, ins.length = b.l.length ∧ ∀ v ∈ b.l, bit v := fun b hb => ⟨by have := (F7p s hs b hb).1; omega, fb b hb⟩
  have lo : ∀ b, (outF ins gs outs b).length = outs.length := fun b => List.length_map ..
  have Lo := W.lo
  suffices hh : ∃ r, m_polynomials_of (C := C) (⟨ins, gs, outs⟩ : CirD G) = some r ∧ r.length = outs.length ∧ ∀ (j : Nat) (t : Po), r[j]? = some t → PolT (TT s) s.1 t ∧ ∀ b ∈ TT s, EV s.1 (pw s.1) t b = (outF ins gs outs b).getD j 0 by
    obtain ⟨r, e, l, q⟩ := hh
    refine ⟨r, e, l, fun t ht => ?_, fun b hb => ?_⟩
    · obtain ⟨j, hj, et⟩ := List.getElem_of_mem ht
      exact (q j t (by rw [List.getElem?_eq_getElem hj, et])).1
    · refine List.ext_getElem (by rw [List.length_map, l, lo]) fun j h1 h2 => ?_
      rw [List.length_map] at h1
      rw [List.getElem_map, (q j _ (List.getElem?_eq_getElem h1)).2 b hb, List.getD_eq_getElem?_getD, List.getElem?_eq_getElem h2]
      rfl
  unfold m_polynomials_of fl_polynomials_of
  simp -implicitDefEqProofs only [Option.bind_some]
  rw [hsp, bO, p1, Option.bind_some, capI_ok (by omega), Option.bind_some, mapO_val (α := Tup Int) (g := outF ins gs outs) (fun b hb => outputs_ok W (pt b hb).1 (pt b hb).2), bO, rangeI_ok (by omega) (by omega), Option.bind_some, capI_ok (by rw [upto_len]; omega), Option.bind_some]
  obtain ⟨ts, et, lt, qt⟩ := mapO_ex (xs := upto 0 ((outs.length : Int)).toNat) (h := fun (i : Int) => ((capI ((TT s).map (outF ins gs outs))).bind fun xs_154 => mapO (fun (i_153 : List Int) => atI i_153 i) xs_154).bind fun v_156 => m_polynomial_of (⟨2, ins, s.2, TT s⟩ : SpaceD C) v_156) (Q := fun i t => PolT (TT s) s.1 t ∧ ∀ b ∈ TT s, EV s.1 (pw s.1) t b = (outF ins gs outs b).getD i.toNat 0) fun i hi => by
    have hi := upto_mem hi
    have lm : ((TT s).map fun b => (outF ins gs outs b).getD i.toNat 0).length = NN s := by rw [List.length_map]; rfl
    obtain ⟨t, e, p, v⟩ := poly_of h1 lm
    refine ⟨t, ?_, p, fun b hb => ?_⟩
    · rw [capI_ok (by rw [List.length_map]; omega), Option.bind_some, mapO_val (α := List Int) (g := fun r => r.getD i.toNat 0) (fun r hr => by
        obtain ⟨b, _, rfl⟩ := List.mem_map.mp hr
        exact atI_getD 0 hi.1 (by rw [lo]; omega)), Option.bind_some, List.map_map]
      exact e
    · have := List.map_inj_left.mp (v.trans (List.map_map ..)) b hb
      rw [this]
      have m : (outF ins gs outs b).getD i.toNat 0 ∈ outF ins gs outs b := getD_mem 0 (by rw [lo]; omega)
      show (outF ins gs outs b).getD i.toNat 0 % s.1 = _
      rw [s2]
      rcases out_bit W (pt b hb).1 (pt b hb).2 _ m with z | z <;> rw [z] <;> rfl
  rw [et, bO]
  refine ⟨ts, rfl, by rw [lt, upto_len]; omega, fun j t hj => ?_⟩
  have j1 := (List.getElem?_eq_some_iff.mp hj).1
  have j2 : j < ((outs.length : Int)).toNat := by rw [lt, upto_len] at j1; exact j1
  have := qt j (j : Int) t (upto_get j2) hj
  rw [Int.toNat_natCast] at this
  exact this
end Kt

set_option maxRecDepth 100000
set_option linter.all false
set_option Elab.async false
namespace Kt
open PySem PySem.Spec L2 Dn
theorem ok1_mono {a b : List Str} (h : ∀ x ∈ a, x ∈ b) {g : Gt} (o : ok1 a g) : ok1 b g := by
  rcases o with ⟨k, x, e, m⟩ | ⟨k, x, y, e, m, n⟩
  · exact .inl ⟨k, x, e, h x m⟩
  · exact .inr ⟨k, x, y, e, h x m, h y n⟩
theorem nm_old {ins : List Str} {g2 : List Gt} {a : Gt} {x : Str} (h : x ∈ ins ++ g2.map (·.x1)) : x ∈ ins ++ (g2 ++ [a]).map (·.x1) := by
  rw [List.map_append, ← List.append_assoc]
  exact List.mem_append_left _ h
theorem nm_new {ins : List Str} {g2 : List Gt} {a : Gt} : a.x1 ∈ ins ++ (g2 ++ [a]).map (·.x1) := by
  rw [List.map_append, ← List.append_assoc]
  exact List.mem_append_right _ (List.mem_cons_self ..)
theorem okGs_set : ∀ {gs : List Gt} {kn : List Str} {i : Nat} {g g' : Gt}, OkGs kn gs → gs[i]? = some g → g'.x1 = g.x1 → (∀ kn', ok1 kn' g → ok1 kn' g') → OkGs kn (gs.set i g') ∧ (gs.set i g').map (·.x1) = gs.map (·.x1)
  | a :: gs, kn, 0, g, g', h, e, en, ho => by
    cases e
    refine ⟨⟨ho _ h.1, ?_⟩, ?_⟩
    · rw [en]; exact h.2
    · show g'.x1 :: gs.map (·.x1) = a.x1 :: gs.map (·.x1)
      rw [en]
  | a :: gs, kn, i + 1, g, g', h, e, en, ho => by
    have := okGs_set (gs := gs) h.2 (i := i) e en ho
    exact ⟨⟨h.1, this.1⟩, congrArg (a.x1 :: ·) this.2⟩
def freshO (k : Int) : Option (List Str) := mapO (fun (i : Int) => (((((strI k).bind fun v_411 => (addS ("z" : Str) v_411)).bind fun v_412 => (addS v_412 ("q" : Str)))).bind fun v_414 => (strI i).bind fun v_415 => (addS v_414 v_415))) (upto 0 5)
theorem fresh_all : ∀ k ∈ List.range 13, (freshO (k : Int)).isSome = true := by decide +kernel
theorem fresh_ok {k : Nat} (h : k < 13) : ∃ fr, freshO (k : Int) = some fr ∧ fr.length = 5 := by
  obtain ⟨fr, e⟩ := Option.isSome_iff_exists.mp (fresh_all k (List.mem_range.mpr h))
  refine ⟨fr, e, ?_⟩
  have := mapO_len e
  rw [upto_len] at this
  exact this
theorem capL_of {α : Type} {xs : List α} (h : xs.length ≤ 100) : (capL xs).map Tup.mk = some (⟨xs⟩ : Tup α) := by
  unfold capL
  rw [if_pos (len1_of (by omega))]
  rfl
theorem bind_nx {T L R : Type} {X : Fl T L R} {r : T} (h : Fl.bind X (fun s => (.nx s : Fl T L R)) = .nx r) : X = .nx r := by cases X <;> first | exact h | cases h
theorem orn (a b : Bool) : orO (some a) (some b) = some (a || b) := by cases a <;> rfl
theorem otherwise_ok (cell : Int) {ins : List Str} {gs : List Gt} {outs : List Str} (W : CW ins gs outs) (l12 : gs.length ≤ 12) : ∃ gs2, m_law_otherwise ⟨ins, gs, outs⟩ cell = some ⟨ins, gs2, outs⟩ ∧ CW ins gs2 outs := by
  suffices hh : ∃ r, m_law_otherwise ⟨ins, gs, outs⟩ cell = some r ∧ ∃ gs2, r = ⟨ins, gs2, outs⟩ ∧ CW ins gs2 outs by
    obtain ⟨r, e, gs2, rfl, w⟩ := hh
    exact ⟨gs2, e, w⟩
  obtain ⟨ds, ed, ld, hd⟩ := digits_ok cell (many := 420) (count := 16) (by decide) (by decide) (by decide) (by decide)
  have at_ : ∀ {i : Int}, 0 ≤ i → i < 16 → ∃ v, atI ds i = some v ∧ 0 ≤ v ∧ v < 420 := fun {i} h0 h1 => by
    obtain ⟨v, e, m⟩ := atI_ge (xs := ds) (i := i) h0 (by omega)
    exact ⟨v, e, hd v m⟩
  obtain ⟨v13, e13, r13⟩ := at_ (i := 13) (by decide) (by decide)
  obtain ⟨v14, e14, r14⟩ := at_ (i := 14) (by decide) (by decide)
  obtain ⟨v15, e15, r15⟩ := at_ (i := 15) (by decide) (by decide)
  unfold m_law_otherwise fl_law_otherwise
  simp -implicitDefEqProofs only [Option.bind_some]
  rw [ed, bO, bO, rangeI_ok (by omega) (by omega), bO, Int.toNat_natCast]
  refine ix_fin (fun k (g2 : List Gt) => OkGs ins g2 ∧ g2.length ≤ 4 * k ∧ ∀ x ∈ ins ++ (gs.take k).map (·.x1), x ∈ ins ++ g2.map (·.x1)) (fun k i g2 hk h2 => ?_) ⟨trivial, Nat.zero_le _, fun x hx => hx⟩ fun g2 h2 => ?_
  · obtain ⟨rfl, k1⟩ := upto_got hk
    obtain ⟨og, lg, mem⟩ := h2
    have gt : gs[k]? = some gs[k] := List.getElem?_eq_getElem k1
    have a1 : atI gs (k : Int) = some gs[k] := atI_nat gt
    obtain ⟨o1, _⟩ := okGs_at W.og gt
    have o1 := ok1_mono mem o1
    obtain ⟨fr, ef, lf⟩ := fresh_ok (k := k) (by omega)
    unfold freshO at ef
    obtain ⟨f0, f1, f2, f3, f4, rfl⟩ : ∃ f0 f1 f2 f3 f4, fr = [f0, f1, f2, f3, f4] := by
      match fr, lf with
      | [f0, f1, f2, f3, f4], _ => exact ⟨_, _, _, _, _, rfl⟩
    obtain ⟨vk, ek, rk⟩ := at_ (i := (k : Int)) (by omega) (by omega)
    have tk : ∀ x, x ∈ ins ++ (gs.take (k + 1)).map (·.x1) → x ∈ ins ++ (gs.take k).map (·.x1) ∨ x = (gs[k]).x1 := fun x hx => by
      rw [List.take_add_one, gt, List.map_append, ← List.append_assoc] at hx
      rcases List.mem_append.mp hx with hx | hx
      · exact .inl hx
      · exact .inr (List.mem_singleton.mp hx)
    generalize gs[k] = g at a1 o1 tk
    have L : ∀ {n : Nat}, n ≤ 4 * k + 4 → len1 n = true := fun h => len1_of (by omega)
    have z0 : atI ([f0, f1, f2, f3, f4] : List Str) (0 : Int) = some f0 := rfl
    have z1 : atI ([f0, f1, f2, f3, f4] : List Str) (1 : Int) = some f1 := rfl
    have z2 : atI ([f0, f1, f2, f3, f4] : List Str) (2 : Int) = some f2 := rfl
    rw [a1, bO, rangeI_ok (by decide) (by decide), Option.bind_some, capI_ok (by rw [upto_len]; decide), Option.bind_some]
    rw [show ((5 : Int)).toNat = 5 from rfl, ef, bO, ek, Option.bind_some, Option.bind_some, modI_ok (by decide), Option.bind_some]
    by_cases c1 : (decide (vk % 3 = 0) || decide (g.x2 = ("not" : Str))) = true
    · rw [orn, c1, bO, if_pos rfl, bO, if_pos (L (by omega)), bN]
      refine ⟨_, rfl, okGs_snoc og o1, by rw [List.length_append]; show _ + 1 ≤ _; omega, fun x hx => ?_⟩
      rcases tk x hx with h | rfl
      · exact nm_old (mem x h)
      · exact nm_new
    · have c1 : (decide (vk % 3 = 0) || decide (g.x2 = ("not" : Str))) = false := by
        cases q : (decide (vk % 3 = 0) || decide (g.x2 = ("not" : Str))) with
        | true => exact absurd q c1
        | false => rfl
      have nn : ¬ g.x2 = ("not" : Str) := fun e => by rw [decide_eq_true e, Bool.or_true] at c1; cases c1
      rw [orn, c1, bO, if_neg Bool.false_ne_true, bO]
      rcases o1 with ⟨kk, _⟩ | ⟨kk, a, b, eo, ma, mb⟩
      · exact absurd kk nn
      by_cases cx : g.x2 = ("xor" : Str)
      · rw [decide_eq_true cx, if_pos rfl, z0, z1, z2]
        simp -implicitDefEqProofs only [Option.bind_some]
        rw [capL_of (by show 1 ≤ 100; decide), Option.bind_some, capL_of (by show 2 ≤ 100; decide), Option.bind_some, bO, if_pos (L (by omega)), bO, if_pos (L (by rw [List.length_append]; show _ + 1 ≤ _; omega)), bO, if_pos (L (by rw [List.length_append, List.length_append]; show _ + 1 + 1 ≤ _; omega)), bO, if_pos (L (by rw [List.length_append, List.length_append, List.length_append]; show _ + 1 + 1 + 1 ≤ _; omega)), bN, bN]
        have h1 : OkGs ins (g2 ++ [⟨f0, ("or" : Str), g.x3⟩]) := okGs_snoc og (.inr ⟨.inr (.inl rfl), a, b, eo, ma, mb⟩)
        have h2 : OkGs ins (g2 ++ [⟨f0, ("or" : Str), g.x3⟩] ++ [⟨f1, ("and" : Str), g.x3⟩]) := okGs_snoc h1 (.inr ⟨.inl rfl, a, b, eo, nm_old ma, nm_old mb⟩)
        have h3 : OkGs ins (g2 ++ [⟨f0, ("or" : Str), g.x3⟩] ++ [⟨f1, ("and" : Str), g.x3⟩] ++ [⟨f2, ("not" : Str), ⟨[f1]⟩⟩]) := okGs_snoc h2 (.inl ⟨rfl, f1, rfl, nm_new (a := ⟨f1, ("and" : Str), g.x3⟩)⟩)
        refine ⟨_, rfl, okGs_snoc h3 (.inr ⟨.inl rfl, f0, f2, rfl, nm_old (nm_old (nm_new (a := ⟨f0, ("or" : Str), g.x3⟩))), nm_new (a := ⟨f2, ("not" : Str), ⟨[f1]⟩⟩)⟩), ?_, fun x hx => ?_⟩
        · rw [List.length_append, List.length_append, List.length_append, List.length_append]
          show _ + 1 + 1 + 1 + 1 ≤ _
          omega
        · rcases tk x hx with h | rfl
          · exact nm_old (nm_old (nm_old (nm_old (mem x h))))
          · exact nm_new (a := ⟨g.x1, ("and" : Str), ⟨[f0, f2]⟩⟩)
      · obtain ⟨kd, ekd, mk⟩ : ∃ kd, atI ([("and" : Str), ("or" : Str)] : List Str) (if decide (g.x2 = ("and" : Str)) = true then (1 : Int) else 0) = some kd ∧ (kd = ("and" : Str) ∨ kd = ("or" : Str) ∨ kd = ("xor" : Str)) := by
          by_cases q : g.x2 = ("and" : Str)
          · rw [decide_eq_true q, if_pos rfl]
            exact ⟨_, rfl, .inr (.inl rfl)⟩
          · rw [decide_eq_false q, if_neg Bool.false_ne_true]
            exact ⟨_, rfl, .inl rfl⟩
        have y0 : atI g.x3.l (0 : Int) = some a := by rw [eo]; rfl
        have y1 : atI g.x3.l (1 : Int) = some b := by rw [eo]; rfl
        rw [decide_eq_false cx, if_neg Bool.false_ne_true, z0, z1, z2, y0, y1, ekd]
        simp -implicitDefEqProofs only [Option.bind_some]
        rw [capL_of (by show 1 ≤ 100; decide), Option.bind_some, capL_of (by show 1 ≤ 100; decide), Option.bind_some, capL_of (by show 2 ≤ 100; decide), Option.bind_some, capL_of (by show 1 ≤ 100; decide), Option.bind_some, bO, if_pos (L (by omega)), bO, if_pos (L (by rw [List.length_append]; show _ + 1 ≤ _; omega)), bO, if_pos (L (by rw [List.length_append, List.length_append]; show _ + 1 + 1 ≤ _; omega)), bO, if_pos (L (by rw [List.length_append, List.length_append, List.length_append]; show _ + 1 + 1 + 1 ≤ _; omega)), bN, bN]
        have h1 : OkGs ins (g2 ++ [⟨f0, ("not" : Str), ⟨[a]⟩⟩]) := okGs_snoc og (.inl ⟨rfl, a, rfl, ma⟩)
        have h2 : OkGs ins (g2 ++ [⟨f0, ("not" : Str), ⟨[a]⟩⟩] ++ [⟨f1, ("not" : Str), ⟨[b]⟩⟩]) := okGs_snoc h1 (.inl ⟨rfl, b, rfl, nm_old mb⟩)
        have h3 : OkGs ins (g2 ++ [⟨f0, ("not" : Str), ⟨[a]⟩⟩] ++ [⟨f1, ("not" : Str), ⟨[b]⟩⟩] ++ [⟨f2, kd, ⟨[f0, f1]⟩⟩]) := okGs_snoc h2 (.inr ⟨mk, f0, f1, rfl, nm_old (nm_new (a := ⟨f0, ("not" : Str), ⟨[a]⟩⟩)), nm_new (a := ⟨f1, ("not" : Str), ⟨[b]⟩⟩)⟩)
        refine ⟨_, rfl, okGs_snoc h3 (.inl ⟨rfl, f2, rfl, nm_new (a := ⟨f2, kd, ⟨[f0, f1]⟩⟩)⟩), ?_, fun x hx => ?_⟩
        · rw [List.length_append, List.length_append, List.length_append, List.length_append]
          show _ + 1 + 1 + 1 + 1 ≤ _
          omega
        · rcases tk x hx with h | rfl
          · exact nm_old (nm_old (nm_old (nm_old (mem x h))))
          · exact nm_new (a := ⟨g.x1, ("not" : Str), ⟨[f2]⟩⟩)
  · rw [upto_len, List.take_length] at h2
    obtain ⟨og, lg, mem⟩ := h2
    have done : ∀ g3, OkGs ins g3 → g3.length ≤ 48 → (∀ x ∈ ins ++ gs.map (·.x1), x ∈ ins ++ g3.map (·.x1)) → CW ins g3 outs := fun g3 a b c => ⟨W.li, by omega, W.lo, a, fun n hn => c n (W.oo n hn)⟩
    rw [e13, Option.bind_some, Option.bind_some, modI_ok (by decide), Option.bind_some]
    have key : ∀ B : Bool, (B = true → 0 < g2.length) → ∃ r, (Fl.bindO (some B) fun v_514 => Fl.bind (if v_514 = true then ((Fl.bindO ((((atI ds (14 : Int)).bind fun v_495 => some v_495)).bind fun v_496 => (modI v_496 (g2.length : Int))) fun at_494 => (Fl.bindO (atI g2 at_494) fun t_498 => (Fl.bindO (some (!decide (t_498.x2 = ("not" : Str)))) fun v_512 => Fl.bind (if v_512 = true then ((Fl.bindO (((((((atI ds (15 : Int)).bind fun v_499 => some v_499)).bind fun v_500 => (modI v_500 (3 : Int)))).bind fun v_503 => (atI ([("and" : Str), ("or" : Str), ("xor" : Str)] : List Str) v_503)).bind fun v_505 => some (Trp.mk t_498.x1 v_505 t_498.x3)) fun y_507 => Fl.bindO (some at_494) fun z_508 => Fl.bindO (ixN g2.length z_508) fun q_509 => (.nx (g2.set q_509 y_507))) : Fl (List Gt) Unit (Tri (List Str) (List Gt) (List Str))) else (.nx g2)) fun s_513 => (.nx s_513)))) : Fl (List Gt) Unit (Tri (List Str) (List Gt) (List Str))) else (.nx g2)) fun s_515 => (.nx s_515 : Fl (List Gt) Unit (Tri (List Str) (List Gt) (List Str)))) = .nx r ∧ CW ins r outs := fun B hB => by
      rw [bO]
      cases B with
      | false =>
        rw [if_neg Bool.false_ne_true, bN]
        exact ⟨_, rfl, done _ og (by omega) mem⟩
      | true =>
        have hB := hB rfl
        have m0 := Int.emod_nonneg v14 (show (g2.length : Int) ≠ 0 by omega)
        have m1 := Int.emod_lt_of_pos v14 (show (0 : Int) < g2.length by omega)
        obtain ⟨q, hq⟩ := Int.eq_ofNat_of_zero_le m0
        have q1 : q < g2.length := by omega
        have ga : g2[q]? = some g2[q] := List.getElem?_eq_getElem q1
        have a1 : atI g2 (q : Int) = some g2[q] := atI_nat ga
        rw [if_pos rfl, e14, Option.bind_some, Option.bind_some, modI_ok (by omega), hq, bO, a1, bO, bO]
        generalize g2[q] = t at ga
        by_cases cn : t.x2 = ("not" : Str)
        · rw [decide_eq_true cn, Bool.not_true, if_neg Bool.false_ne_true, bN, bN]
          exact ⟨_, rfl, done _ og (by omega) mem⟩
        · obtain ⟨kd, ekd, mk⟩ : ∃ kd, atI ([("and" : Str), ("or" : Str), ("xor" : Str)] : List Str) (v15 % 3) = some kd ∧ (kd = ("and" : Str) ∨ kd = ("or" : Str) ∨ kd = ("xor" : Str)) := by
            obtain ⟨x, e, m⟩ := atI_ge (xs := ([("and" : Str), ("or" : Str), ("xor" : Str)] : List Str)) (i := v15 % 3) (Int.emod_nonneg _ (by decide)) (Int.emod_lt_of_pos _ (by decide))
            refine ⟨x, e, ?_⟩
            rcases List.mem_cons.mp m with h | h
            · exact .inl h
            · rcases List.mem_cons.mp h with h | h
              · exact .inr (.inl h)
              · exact .inr (.inr (List.mem_singleton.mp h))
          have ix : ixN g2.length (q : Int) = some q := by
            unfold ixN
            rw [if_pos (by omega), if_pos (by omega), Int.toNat_natCast]
          rw [decide_eq_false cn, Bool.not_false, if_pos rfl, e15, Option.bind_some, Option.bind_some, modI_ok (by decide), Option.bind_some, ekd, Option.bind_some, bO, bO, ix, bO, bN, bN]
          obtain ⟨w1, w2⟩ := okGs_set (g' := ⟨t.x1, kd, t.x3⟩) og ga rfl fun kn' o => by
            rcases o with ⟨k, _⟩ | ⟨_, x, y, e, m, n⟩
            · exact absurd k cn
            · exact .inr ⟨mk, x, y, e, m, n⟩
          refine ⟨_, rfl, done _ w1 (by rw [List.length_set]; omega) fun x hx => ?_⟩
          rw [w2]
          exact mem x hx
    have andO2 : andO (some (decide (v13 % 3 = 1))) (some (decide ((0 : Int) < (g2.length : Int)))) = some (decide (v13 % 3 = 1) && decide ((0 : Int) < (g2.length : Int))) := by
      cases decide (v13 % 3 = 1) <;> rfl
    rw [andO2]
    obtain ⟨r, er, wr⟩ := key (decide (v13 % 3 = 1) && decide ((0 : Int) < (g2.length : Int))) fun h => by
      rw [Bool.and_eq_true, decide_eq_true_eq, decide_eq_true_eq] at h
      omega
    rw [bO] at er ⊢
    rw [bind_nx er, bN, bO]
    exact ⟨_, rfl, r, rfl, wr⟩
end Kt

set_option maxRecDepth 100000
set_option linter.all false
set_option Elab.async false
namespace Kt
open PySem PySem.Spec L2 Dn
abbrev AnC := (Str × List Po) ⊕ Trp Str (Tup Int) Int
theorem loop_search {α L R : Type} {f : α → Unit → Fl Unit Unit R} {W : α → R → Prop} {P : α → Prop} : ∀ {xs : List α}, (∀ x ∈ xs, (f x () = .nx () ∧ P x) ∨ ∃ r, f x () = .rt r ∧ W x r) → ((Fl.loop f xs () : Fl Unit L R) = .nx () ∧ ∀ x ∈ xs, P x) ∨ ∃ x r, x ∈ xs ∧ (Fl.loop f xs () : Fl Unit L R) = .rt r ∧ W x r
  | [], _ => .inl ⟨rfl, fun _ h => nomatch h⟩
  | x :: xs, h => by
    rcases h x (List.mem_cons_self ..) with ⟨e, p⟩ | ⟨r, e, w⟩
    · rcases loop_search (L := L) (xs := xs) fun y hy => h y (List.mem_cons_of_mem _ hy) with ⟨e2, p2⟩ | ⟨y, r, my, e2, w⟩
      · refine .inl ⟨(loop_cons e xs).trans e2, fun y hy => ?_⟩
        rcases List.mem_cons.mp hy with rfl | hy
        · exact p
        · exact p2 y hy
      · exact .inr ⟨y, r, List.mem_cons_of_mem _ my, (loop_cons e xs).trans e2, w⟩
    · refine .inr ⟨x, r, List.mem_cons_self .., ?_, w⟩
      unfold Fl.loop
      rw [e]
theorem compare_ok {C G : Addr} {s : Int × Int} (hs : s ∈ SH) {ins : List Str} {gs gs2 : List Gt} {outs outs2 : List Str} (W : CW ins gs outs) (W2 : CW ins gs2 outs2) (lo : outs2.length = outs.length) (li : (ins.length : Int) = s.2) (mk : m_make_a_space 2 ins = some true) {ts : List Po} (et : m_polynomials_of (C := C) (⟨ins, gs, outs⟩ : CirD G) = some ts) :
    ∃ r : AnC, m_compare_circuits (C := C) (⟨ins, gs, outs⟩ : CirD G) (⟨ins, gs2, outs2⟩ : CirD G) = some r ∧ ((r = Sum.inl (("same" : Str), ts) ∧ ∀ b ∈ TT s, outF ins gs outs b = outF ins gs2 outs2 b) ∨ ∃ b j, r = Sum.inr ⟨("unlike" : Str), b, ((j : Nat) : Int)⟩ ∧ b ∈ TT s ∧ j < outs.length ∧ (outF ins gs outs b).getD j 0 ≠ (outF ins gs2 outs2 b).getD j 0) := by
  obtain ⟨s2, fb⟩ := FB s hs
  have hsp := space_ok C hs (ns := ins) (by rw [s2]; exact mk) li
  rw [s2] at hsp
  have p1 : m_points (⟨2, ins, s.2, TT s⟩ : SpaceD C) = some (TT s) := rfl
  have pt : ∀ b ∈ TT s, ins.length = b.l.length ∧ ∀ v ∈ b.l, bit v := fun b hb => ⟨by have := (F7p s hs b hb).1; omega, fb b hb⟩
  have l1 : ∀ b, (outF ins gs outs b).length = outs.length := fun b => List.length_map ..
  have l2 : ∀ b, (outF ins gs2 outs2 b).length = outs.length := fun b => by rw [← lo]; exact List.length_map ..
  have Lo := W.lo
  unfold m_compare_circuits fl_compare_circuits
  simp -implicitDefEqProofs only [Option.bind_some]
  rw [hsp, Option.bind_some, p1, bO]
  rcases loop_search (L := Unit) (xs := TT s) (W := fun b (r : AnC) => ∃ j, r = Sum.inr ⟨("unlike" : Str), b, ((j : Nat) : Int)⟩ ∧ j < outs.length ∧ (outF ins gs outs b).getD j 0 ≠ (outF ins gs2 outs2 b).getD j 0) (P := fun b => outF ins gs outs b = outF ins gs2 outs2 b) (f := fun (i_161 : Tup Int) (s_160 : Unit) => ((Fl.bindO (m_outputs_at (⟨ins, gs, outs⟩ : CirD G) i_161) fun firsts_162 => (Fl.bindO (m_outputs_at (⟨ins, gs2, outs2⟩ : CirD G) i_161) fun seconds_163 => (Fl.bindO (rangeI (firsts_162.length : Int)) fun xs_172 => Fl.bind (Fl.loop (fun (i_165 : Int) (s_164 : Unit) => ((Fl.bindO (((atI firsts_162 i_165)).bind fun v_166 => ((atI seconds_163 i_165)).bind fun v_167 => some (!decide (v_166 = v_167))) fun v_169 => Fl.bind (if v_169 = true then ((Fl.bindO (some (Sum.inr (Trp.mk ("unlike" : Str) i_161 i_165) : AnC)) fun r_168 => .rt r_168) : Fl Unit Unit AnC) else (.nx ())) fun s_170 => (.nx ())) : Fl Unit Unit AnC)) xs_172 () : Fl Unit Unit AnC) fun s_171 => (.nx ())))) : Fl Unit Unit AnC)) (fun b hb => by
    have pb := pt b hb
    rw [outputs_ok W pb.1 pb.2, bO, outputs_ok W2 pb.1 pb.2, bO, rangeI_ok (by rw [l1]; omega) (by omega), bO, Int.toNat_natCast, l1]
    rcases loop_search (L := Unit) (xs := upto 0 outs.length) (W := fun (i : Int) (r : AnC) => ∃ j, r = Sum.inr ⟨("unlike" : Str), b, ((j : Nat) : Int)⟩ ∧ j < outs.length ∧ (outF ins gs outs b).getD j 0 ≠ (outF ins gs2 outs2 b).getD j 0) (P := fun i => (outF ins gs outs b).getD i.toNat 0 = (outF ins gs2 outs2 b).getD i.toNat 0) (f := fun (i_165 : Int) (s_164 : Unit) => ((Fl.bindO (((atI (outF ins gs outs b) i_165)).bind fun v_166 => ((atI (outF ins gs2 outs2 b) i_165)).bind fun v_167 => some (!decide (v_166 = v_167))) fun v_169 => Fl.bind (if v_169 = true then ((Fl.bindO (some (Sum.inr (Trp.mk ("unlike" : Str) b i_165) : AnC)) fun r_168 => .rt r_168) : Fl Unit Unit AnC) else (.nx ())) fun s_170 => (.nx ())) : Fl Unit Unit AnC)) (fun i hi => by
        have hi := mem_upto.mp hi
        rw [atI_getD 0 hi.1 (by rw [l1]; omega), Option.bind_some, atI_getD 0 hi.1 (by rw [l2]; omega), Option.bind_some, bO]
        by_cases z : (outF ins gs outs b).getD i.toNat 0 = (outF ins gs2 outs2 b).getD i.toNat 0
        · rw [decide_eq_true z, Bool.not_true, if_neg Bool.false_ne_true, bN]
          exact .inl ⟨rfl, z⟩
        · rw [decide_eq_false z, Bool.not_false, if_pos rfl, bO, bR]
          refine .inr ⟨_, rfl, i.toNat, ?_, by omega, z⟩
          rw [Int.toNat_of_nonneg hi.1]) with ⟨e, p⟩ | ⟨i, r, mi, e, w⟩
    · refine .inl ⟨?_, ?_⟩
      · rw [e, bN]
      · refine List.ext_getElem (by rw [l1, l2]) fun j h1 h2 => ?_
        rw [l1] at h1
        have := p (j : Int) (mem_upto.mpr ⟨by omega, by omega⟩)
        rw [Int.toNat_natCast, List.getD_eq_getElem?_getD, List.getD_eq_getElem?_getD, List.getElem?_eq_getElem (by rw [l1]; exact h1), List.getElem?_eq_getElem (by rw [l2]; exact h1)] at this
        exact this
    · exact .inr ⟨r, by rw [e, bR], w⟩) with ⟨e, p⟩ | ⟨b, r, mb, e, j, rfl, hj, ne⟩
  · rw [e, bN, et, Option.bind_some, Option.map_some, bO]
    exact ⟨_, rfl, .inl ⟨rfl, p⟩⟩
  · rw [e, bR]
    exact ⟨_, rfl, .inr ⟨b, j, rfl, mb, hj, ne⟩⟩
theorem eqI_ll (x y : List (List Int)) : eqI x y = some (decide (x = y)) := by
  unfold eqI
  rw [lay_list (lay_list lay_int), lay_list (lay_list lay_int)]
  rfl
theorem idx_pts {T : List (Tup Int)} {b : Tup Int} (h : b ∈ T) : ∃ k : Nat, idxD T b = some (k : Int) ∧ T[k]? = some b := by
  unfold idxD
  rw [lay_tup lay_int, lay_list (lay_tup lay_int)]
  cases e : T.findIdx? fun y => decide (y = b) with
  | none =>
    have := List.findIdx?_eq_none_iff.mp e b h
    rw [decide_eq_true rfl] at this
    cases this
  | some k =>
    obtain ⟨hk, ek, _⟩ := List.findIdx?_eq_some_iff_getElem.mp e
    refine ⟨k, rfl, ?_⟩
    rw [List.getElem?_eq_getElem hk, of_decide_eq_true ek]
theorem SH_in : ∀ n ∈ List.range 6, 1 ≤ n → ((2 : Int), (n : Int)) ∈ SH := by decide
theorem law_true (C G : Addr) (ns : List Int) (_ : ns.length ≤ 63) : m_law C G ns = some true := by
  suffices h : ∃ r, m_law C G ns = some r ∧ r = true by
    obtain ⟨r, e, rfl⟩ := h
    exact e
  unfold m_law fl_law
  simp -implicitDefEqProofs only [Option.bind_some]
  obtain ⟨v0, e0⟩ := cell_ok ns (k := 0) (by decide)
  obtain ⟨v1, e1⟩ := cell_ok ns (k := 1) (by decide)
  obtain ⟨v2, e2⟩ := cell_ok ns (k := 2) (by decide)
  obtain ⟨v3, e3⟩ := cell_ok ns (k := 3) (by decide)
  obtain ⟨v4, e4⟩ := cell_ok ns (k := 4) (by decide)
  obtain ⟨v5, e5⟩ := cell_ok ns (k := 5) (by decide)
  have m0 := Int.emod_nonneg v0 (show (5 : Int) ≠ 0 by decide)
  have m1 := Int.emod_lt_of_pos v0 (show (0 : Int) < 5 by decide)
  obtain ⟨n, hn, n1, n5⟩ : ∃ n : Int, 1 + v0 % 5 = n ∧ 1 ≤ n ∧ n ≤ 5 := ⟨_, rfl, by omega, by omega⟩
  have hs : ((2 : Int), n) ∈ SH := by
    have := SH_in n.toNat (List.mem_range.mpr (by omega)) (by omega)
    rw [Int.toNat_of_nonneg (by omega)] at this
    exact this
  obtain ⟨nm, en, ln, hmk⟩ := gate_names_ok v2
  obtain ⟨gs, outs, ec, W, l12, lo1⟩ := law_circuit_ok v1 ln n1 n5
  obtain ⟨gs5, outs5, ec5, W5, l125, lo5⟩ := law_circuit_ok v5 ln n1 n5
  have li : ((nm.take n.toNat).length : Int) = n := by rw [List.length_take]; omega
  have mk := hmk _ hs
  have mk : m_make_a_space 2 (nm.take n.toNat) = some true := mk
  rw [e0, Option.bind_some, Option.bind_some, modI_ok (by decide), Option.bind_some, hn, bO, e2, Option.bind_some, en, bO, e1, Option.bind_some, ec, bO]
  generalize nm.take n.toNat = ins at W W5 li mk ec5
  obtain ⟨gs2, eo, W2⟩ := otherwise_ok v3 W l12
  rw [e3, Option.bind_some, eo, bO, e4, Option.bind_some, Option.bind_some, modI_ok (by decide), Option.bind_some, bO]
  have Lo := W.lo
  have Lo5 := W5.lo
  refine fin_bind (fun (t : Tri (List Str) (List Gt) (List Str)) => ∃ g o, t = ⟨ins, g, o⟩ ∧ CW ins g o ∧ o.length = outs.length) ?_ fun t ⟨gg, oo, et, Wt, lt⟩ => ?_
  · split
    · have os : ∃ ys, mapO (fun (i : Int) => (modI i (outs5.length : Int)).bind fun v => atI outs5 v) (upto 0 outs.length) = some ys ∧ ys.length = (upto 0 outs.length).length ∧ ∀ y ∈ ys, y ∈ outs5 := mapO_all (fun y => y ∈ outs5) _ fun i hi => by
        rw [modI_ok (by omega), Option.bind_some]
        obtain ⟨x, ex, mx⟩ := atI_ge (xs := outs5) (i := i % (outs5.length : Int)) (Int.emod_nonneg _ (by omega)) (Int.emod_lt_of_pos _ (by omega))
        exact ⟨x, ex, mx⟩
      obtain ⟨ys, ey, ly, my⟩ := os
      rw [upto_len] at ly
      dsimp only
      rw [e5, Option.bind_some, ec5, bO, rangeI_ok (by omega) (by omega), Option.bind_some, Int.toNat_natCast, capI_ok (by rw [upto_len]; omega), Option.bind_some, ey, bO]
      exact ⟨_, rfl, gs5, ys, rfl, ⟨W5.li, W5.lg, by omega, W5.og, fun x hx => W5.oo x (my x hx)⟩, ly⟩
    · exact ⟨_, rfl, gs2, outs, rfl, W2, rfl⟩
  subst et
  have ci : ∀ g o, m_circuit G ins g o = some (⟨ins, g, o⟩ : CirD G) := fun _ _ => rfl
  obtain ⟨ts, etp, ltp, pt, vt⟩ := polys_ok (C := C) (G := G) hs W li mk
  obtain ⟨an, ean, res⟩ := compare_ok hs W Wt lt li mk etp
  have pts : m_law_points (2 : Int) n = some (TT ((2 : Int), n)) := F1p _ hs
  have fb := FB _ hs
  have f8 := F8 _ hs
  have pb : ∀ b ∈ TT ((2 : Int), n), ins.length = b.l.length ∧ ∀ v ∈ b.l, bit v := fun b hb => ⟨by have := (F7p _ hs b hb).1; dsimp only at this; omega, fb.2 b hb⟩
  have l1 : ∀ b, (outF ins gs outs b).length = outs.length := fun b => List.length_map ..
  have l2 : ∀ b, (outF ins gg oo b).length = outs.length := fun b => by rw [← lt]; exact List.length_map ..
  have pr : mapO (fun (i_552 : Tri (List Str) (List Gt) (List Str)) => (m_circuit G i_552.x1 i_552.x2 i_552.x3)) [(⟨ins, gs, outs⟩ : Tri (List Str) (List Gt) (List Str)), ⟨ins, gg, oo⟩] = some [(⟨ins, gs, outs⟩ : CirD G), ⟨ins, gg, oo⟩] := rfl
  have q0 : atI [(⟨ins, gs, outs⟩ : CirD G), ⟨ins, gg, oo⟩] (0 : Int) = some ⟨ins, gs, outs⟩ := rfl
  have q1 : atI [(⟨ins, gs, outs⟩ : CirD G), ⟨ins, gg, oo⟩] (1 : Int) = some ⟨ins, gg, oo⟩ := rfl
  rw [capI_ok (by show 2 ≤ 100000; decide), Option.bind_some, pr, bO, q0, Option.bind_some, q1, Option.bind_some, ean, bO, pts, bO, capI_ok (by omega), Option.bind_some, mapO_val (α := Tup Int) (g := outF ins gs outs) (fun b hb => law_outputs_ok W (pb b hb).1 (pb b hb).2), bO, Option.bind_some, mapO_val (α := Tup Int) (g := outF ins gg oo) (fun b hb => law_outputs_ok Wt (pb b hb).1 (pb b hb).2), bO, eqI_ll, bO]
  have law_p : ∀ t ∈ ts, m_law_is_polynomial (2 : Int) n t = some true := fun t ht => is_poly hs (pt t ht)
  rcases res with ⟨rfl, all⟩ | ⟨b, j, rfl, mb, hj, ne⟩
  · have e : (TT ((2 : Int), n)).map (outF ins gs outs) = (TT ((2 : Int), n)).map (outF ins gg oo) := List.map_congr_left all
    rw [decide_eq_true e, if_pos rfl]
    simp -implicitDefEqProofs only [Sum.elim_inl, Option.bind_some, Sum.getLeft?_inl, Option.map_some]
    rw [show (decide (((2 : Nat) : Int) = (2 : Int))) = true from rfl, show decide True = true from rfl, Bool.not_true, orFa, orFa, bO, if_neg Bool.false_ne_true, bN, capI_ok (by omega), Option.bind_some, mapO_val (g := fun _ => true) law_p, Option.bind_some, Option.bind_some]
    rw [show ((ts.map fun _ => true).all id) = true from List.all_eq_true.mpr fun x hx => by obtain ⟨_, _, rfl⟩ := List.mem_map.mp hx; rfl]
    rw [Bool.not_true, bO, if_neg Bool.false_ne_true, bN, mapO_val (α := Tup Int) (g := outF ins gs outs) (fun b hb => by
      have vb : (ts.map fun t => EV (2 : Int) (pw 2) t b) = outF ins gs outs b := vt b hb
      rw [Option.bind_some, mapO_val (g := fun t => EV (2 : Int) (pw 2) t b) (fun t ht => value_law hs (pt t ht) hb), vb]), Option.bind_some, eqI_ll, decide_eq_true rfl, bO]
    exact ⟨true, rfl, rfl⟩
  · have e : ¬ (TT ((2 : Int), n)).map (outF ins gs outs) = (TT ((2 : Int), n)).map (outF ins gg oo) := fun h => ne (by rw [List.map_inj_left.mp h b mb])
    obtain ⟨k, ek, ek2⟩ := idx_pts mb
    have h1 : atI ((TT ((2 : Int), n)).map (outF ins gs outs)) (k : Int) = some (outF ins gs outs b) := atI_nat (by rw [List.getElem?_map, ek2]; rfl)
    have h2 : atI ((TT ((2 : Int), n)).map (outF ins gg oo)) (k : Int) = some (outF ins gg oo b) := atI_nat (by rw [List.getElem?_map, ek2]; rfl)
    have g1 : atI (outF ins gs outs b) (j : Int) = some ((outF ins gs outs b).getD j 0) := by
      have := atI_getD (xs := outF ins gs outs b) (i := (j : Int)) 0 (by omega) (by rw [l1]; omega)
      rw [Int.toNat_natCast] at this
      exact this
    have g2 : atI (outF ins gg oo b) (j : Int) = some ((outF ins gg oo b).getD j 0) := by
      have := atI_getD (xs := outF ins gg oo b) (i := (j : Int)) 0 (by omega) (by rw [l2]; omega)
      rw [Int.toNat_natCast] at this
      exact this
    rw [decide_eq_false e, if_neg Bool.false_ne_true, bN]
    simp -implicitDefEqProofs only [Sum.elim_inr, Option.bind_some, Sum.getRight?_inr, Option.map_some]
    rw [show (decide (((3 : Nat) : Int) = (3 : Int))) = true from rfl, show decide True = true from rfl, Bool.not_true, orFa, orFa, orFa, ninD_pts, decide_eq_true mb, Bool.not_true, bO, if_neg Bool.false_ne_true, bN, ch_ll, Option.bind_some, decide_eq_true (show (0 : Int) ≤ (j : Int) by omega), decide_eq_true (show (j : Int) < (outs.length : Int) by omega), Bool.and_self, Bool.not_true, bO, if_neg Bool.false_ne_true, bN, ek, bO, h1, Option.bind_some, g1, Option.bind_some, h2, Option.bind_some, g2, Option.bind_some, decide_eq_false ne, bO]
    exact ⟨true, rfl, rfl⟩
end Kt

set_option Elab.async false
set_option linter.all false
set_option maxRecDepth 100000
set_option maxHeartbeats 40000000
namespace Kt
open PySem PySem.Spec L2 Dn
open Rep (rep)
theorem all_mk {P : Program} {w : World} {K : PySem.W.Frag} {h : Heap} {mg : Str → Option Value} {fa : Addr} (X : K.In h) (Gh : h.Ns mainGlobals mg) (hfa : mg "law" = some (.ref fa)) (HL : ∀ (C G : Addr) (ns : List Int), ns.length ≤ 63 → m_law C G ns = some true)
    {f0 : Addr} {od0 an0 : Option Addr} {sl0 : Array (Option Value)} {oc0 kV0 dc0 pm0 cd0 ct0 : Value}
    {f1 : Addr} {od1 an1 : Option Addr} {sl1 : Array (Option Value)} {oc1 kV1 dc1 pm1 cd1 ct1 : Value}
    {f2 : Addr} {od2 an2 : Option Addr} {sl2 : Array (Option Value)} {oc2 kV2 dc2 pm2 cd2 ct2 : Value}
    {f3 : Addr} {od3 an3 : Option Addr} {sl3 : Array (Option Value)} {oc3 kV3 dc3 pm3 cd3 ct3 : Value}
    {f4 : Addr} {od4 an4 : Option Addr} {sl4 : Array (Option Value)} {oc4 kV4 dc4 pm4 cd4 ct4 : Value}
    {f5 : Addr} {od5 an5 : Option Addr} {sl5 : Array (Option Value)} {oc5 kV5 dc5 pm5 cd5 ct5 : Value}
    {f6 : Addr} {od6 an6 : Option Addr} {sl6 : Array (Option Value)} {oc6 kV6 dc6 pm6 cd6 ct6 : Value}
    {f7 : Addr} {od7 an7 : Option Addr} {sl7 : Array (Option Value)} {oc7 kV7 dc7 pm7 cd7 ct7 : Value}
    {f8 : Addr} {od8 an8 : Option Addr} {sl8 : Array (Option Value)} {oc8 kV8 dc8 pm8 cd8 ct8 : Value}
    {f9 : Addr} {od9 an9 : Option Addr} {sl9 : Array (Option Value)} {oc9 kV9 dc9 pm9 cd9 ct9 : Value}
    {f10 : Addr} {od10 an10 : Option Addr} {sl10 : Array (Option Value)} {oc10 kV10 dc10 pm10 cd10 ct10 : Value}
    {f11 : Addr} {od11 an11 : Option Addr} {sl11 : Array (Option Value)} {oc11 kV11 dc11 pm11 cd11 ct11 : Value}
    {f12 : Addr} {od12 an12 : Option Addr} {sl12 : Array (Option Value)} {oc12 kV12 dc12 pm12 cd12 ct12 : Value}
    {f13 : Addr} {od13 an13 : Option Addr} {sl13 : Array (Option Value)} {oc13 kV13 dc13 pm13 cd13 ct13 : Value}
    {f14 : Addr} {od14 an14 : Option Addr} {sl14 : Array (Option Value)} {oc14 kV14 dc14 pm14 cd14 ct14 : Value}
    {f15 : Addr} {od15 an15 : Option Addr} {sl15 : Array (Option Value)} {oc15 kV15 dc15 pm15 cd15 ct15 : Value}
    {f16 : Addr} {od16 an16 : Option Addr} {sl16 : Array (Option Value)} {oc16 kV16 dc16 pm16 cd16 ct16 : Value}
    {f17 : Addr} {od17 an17 : Option Addr} {sl17 : Array (Option Value)} {oc17 kV17 dc17 pm17 cd17 ct17 : Value}
    {f18 : Addr} {od18 an18 : Option Addr} {sl18 : Array (Option Value)} {oc18 kV18 dc18 pm18 cd18 ct18 : Value}
    {f19 : Addr} {od19 an19 : Option Addr} {sl19 : Array (Option Value)} {oc19 kV19 dc19 pm19 cd19 ct19 : Value}
    {f20 : Addr} {od20 an20 : Option Addr} {sl20 : Array (Option Value)} {oc20 kV20 dc20 pm20 cd20 ct20 : Value}
    {f21 : Addr} {od21 an21 : Option Addr} {sl21 : Array (Option Value)} {oc21 kV21 dc21 pm21 cd21 ct21 : Value}
    {f22 : Addr} {od22 an22 : Option Addr} {sl22 : Array (Option Value)} {oc22 kV22 dc22 pm22 cd22 ct22 : Value}
    {f23 : Addr} {od23 an23 : Option Addr} {sl23 : Array (Option Value)} {oc23 kV23 dc23 pm23 cd23 ct23 : Value}
    {f24 : Addr} {od24 an24 : Option Addr} {sl24 : Array (Option Value)} {oc24 kV24 dc24 pm24 cd24 ct24 : Value}
    {f25 : Addr} {od25 an25 : Option Addr} {sl25 : Array (Option Value)} {oc25 kV25 dc25 pm25 cd25 ct25 : Value}
    {f26 : Addr} {od26 an26 : Option Addr} {sl26 : Array (Option Value)} {oc26 kV26 dc26 pm26 cd26 ct26 : Value}
    {f27 : Addr} {od27 an27 : Option Addr} {sl27 : Array (Option Value)} {oc27 kV27 dc27 pm27 cd27 ct27 : Value}
    {f28 : Addr} {od28 an28 : Option Addr} {sl28 : Array (Option Value)} {oc28 kV28 dc28 pm28 cd28 ct28 : Value}
    {f29 : Addr} {od29 an29 : Option Addr} {sl29 : Array (Option Value)} {oc29 kV29 dc29 pm29 cd29 ct29 : Value}
    {C G fP : Addr} {ddP : Option Addr} {nP : Nat} {slP : Array (Option Value)} {t1 t2 t3 t4 t5 t6 t7 t8 t9 : Tok}
    (gC : PySem.W.nsIn K mainGlobals "Space" = some (some (.ref C)))
    (gPR : PySem.W.nsIn K mainGlobals "PRIMES" = some (some (.ref fP)))
    (lPR : K.lookup fP = some ⟨.type "tuple", ddP, .seq #[.int 2 t1, .int 3 t2, .int 5 t3, .int 7 t4] nP, slP⟩)
    (gLE : PySem.W.nsIn K mainGlobals "LETTERS" = some (some (.str "abcdefghijklmnopqrstuvwxyz" t5)))
    (gLD : PySem.W.nsIn K mainGlobals "LETTERS_AND_DIGITS" = some (some (.str "abcdefghijklmnopqrstuvwxyz0123456789" t6)))
    (gLN : PySem.W.nsIn K mainGlobals "LONGEST_NAME" = some (some (.int 12 t7)))
    (gMU : PySem.W.nsIn K mainGlobals "MOST_UNKNOWNS" = some (some (.int 8 t8)))
    (gMP : PySem.W.nsIn K mainGlobals "MOST_POINTS" = some (some (.int 256 t9)))
    (z_range : PySem.W.nsIn K mainGlobals "range" = some none)
    (z_len : PySem.W.nsIn K mainGlobals "len" = some none)
    (z_int : PySem.W.nsIn K mainGlobals "int" = some none)
    (z_all : PySem.W.nsIn K mainGlobals "all" = some none)
    (z_set : PySem.W.nsIn K mainGlobals "set" = some none)
    (z_list : PySem.W.nsIn K mainGlobals "list" = some none)
    (z_isinstance : PySem.W.nsIn K mainGlobals "isinstance" = some none)
    (z_sum : PySem.W.nsIn K mainGlobals "sum" = some none)
    (z_sorted : PySem.W.nsIn K mainGlobals "sorted" = some none)
    (z_zip : PySem.W.nsIn K mainGlobals "zip" = some none)
    (z_tuple : PySem.W.nsIn K mainGlobals "tuple" = some none)
    (z_min : PySem.W.nsIn K mainGlobals "min" = some none)
    (z_str : PySem.W.nsIn K mainGlobals "str" = some none)
    (pgC : PySem.W.plainGet K C "" = true)
    (hdC : PySem.W.hasDictIn K C = true)
    (poC : PySem.W.plainOver K C = true)
    (saC : PySem.W.findIn K (.ref C) "__setattr__" = some (some (.builtin "object.__setattr__")))
    (n1C : PySem.W.findIn K (.ref C) "prime" = some none)
    (n2C : PySem.W.findIn K (.ref C) "names" = some none)
    (n3C : PySem.W.findIn K (.ref C) "count" = some none)
    (n4C : PySem.W.findIn K (.ref C) "_tuples" = some none)
    (mkC : PySem.W.makesIn K C = true)
    (kpC : PySem.W.keepIn K (.ref C) = true)
    (gG : PySem.W.nsIn K mainGlobals "Circuit" = some (some (.ref G)))
    (pgG : PySem.W.plainGet K G "" = true)
    (hdG : PySem.W.hasDictIn K G = true)
    (poG : PySem.W.plainOver K G = true)
    (saG : PySem.W.findIn K (.ref G) "__setattr__" = some (some (.builtin "object.__setattr__")))
    (n1G : PySem.W.findIn K (.ref G) "inputs" = some none)
    (n2G : PySem.W.findIn K (.ref G) "gates" = some none)
    (n3G : PySem.W.findIn K (.ref G) "outputs" = some none)
    (mkG : PySem.W.makesIn K G = true)
    (kpG : PySem.W.keepIn K (.ref G) = true)
    (haG : PySem.W.findIn K (.ref G) "__class__" = some (some (.builtin "object.__class__")))
    (hnG : PySem.W.specialIn K (.builtin "object.__class__") "__get__" = some (some (.builtin "getset_descriptor.__get__")))
    (htG : PySem.W.takesIn K (.builtin "object.__class__") = some true)
    (hmG : PySem.W.mroIn K G (.type "object") = some true)
    (meG : PySem.W.kitOne K (.ref G) (.ref G) = some true)
    (a0 : PySem.W.nsIn K mainGlobals "number_raised" = some (some (.ref f0)))
    (l0 : K.lookup f0 = some ⟨oc0, od0, .func (PySem.W.fnOf "number_raised" "number_raised" (defArgs s_number_raised) (defBody s_number_raised) (defScope s_number_raised) .none kV0 dc0 pm0 an0 cd0 ct0), sl0⟩)
    (c0 : PySem.W.codeIn K cd0 "number_raised" = true)
    (k0 : PySem.W.keepIn K (.ref f0) = true)
    (a1 : PySem.W.nsIn K mainGlobals "is_name" = some (some (.ref f1)))
    (l1 : K.lookup f1 = some ⟨oc1, od1, .func (PySem.W.fnOf "is_name" "is_name" (defArgs s_is_name) (defBody s_is_name) (defScope s_is_name) .none kV1 dc1 pm1 an1 cd1 ct1), sl1⟩)
    (c1 : PySem.W.codeIn K cd1 "is_name" = true)
    (k1 : PySem.W.keepIn K (.ref f1) = true)
    (a2 : PySem.W.nsIn K mainGlobals "make_a_space" = some (some (.ref f2)))
    (l2 : K.lookup f2 = some ⟨oc2, od2, .func (PySem.W.fnOf "make_a_space" "make_a_space" (defArgs s_make_a_space) (defBody s_make_a_space) (defScope s_make_a_space) .none kV2 dc2 pm2 an2 cd2 ct2), sl2⟩)
    (c2 : PySem.W.codeIn K cd2 "make_a_space" = true)
    (k2 : PySem.W.keepIn K (.ref f2) = true)
    (a3 : PySem.W.nsIn K mainGlobals "tuples_in_order" = some (some (.ref f3)))
    (l3 : K.lookup f3 = some ⟨oc3, od3, .func (PySem.W.fnOf "tuples_in_order" "tuples_in_order" (defArgs s_tuples_in_order) (defBody s_tuples_in_order) (defScope s_tuples_in_order) .none kV3 dc3 pm3 an3 cd3 ct3), sl3⟩)
    (c3 : PySem.W.codeIn K cd3 "tuples_in_order" = true)
    (k3 : PySem.W.keepIn K (.ref f3) = true)
    (a4 : PySem.W.nsIn K mainGlobals "degree_of" = some (some (.ref f4)))
    (l4 : K.lookup f4 = some ⟨oc4, od4, .func (PySem.W.fnOf "degree_of" "degree_of" (defArgs s_degree_of) (defBody s_degree_of) (defScope s_degree_of) .none kV4 dc4 pm4 an4 cd4 ct4), sl4⟩)
    (c4 : PySem.W.codeIn K cd4 "degree_of" = true)
    (k4 : PySem.W.keepIn K (.ref f4) = true)
    (a5 : PySem.W.nsIn K mainGlobals "polynomial_of" = some (some (.ref f5)))
    (l5 : K.lookup f5 = some ⟨oc5, od5, .func (PySem.W.fnOf "polynomial_of" "polynomial_of" (defArgs s_polynomial_of) (defBody s_polynomial_of) (defScope s_polynomial_of) .none kV5 dc5 pm5 an5 cd5 ct5), sl5⟩)
    (c5 : PySem.W.codeIn K cd5 "polynomial_of" = true)
    (k5 : PySem.W.keepIn K (.ref f5) = true)
    (a6 : PySem.W.nsIn K mainGlobals "number_rows" = some (some (.ref f6)))
    (l6 : K.lookup f6 = some ⟨oc6, od6, .func (PySem.W.fnOf "number_rows" "number_rows" (defArgs s_number_rows) (defBody s_number_rows) (defScope s_number_rows) .none kV6 dc6 pm6 an6 cd6 ct6), sl6⟩)
    (c6 : PySem.W.codeIn K cd6 "number_rows" = true)
    (k6 : PySem.W.keepIn K (.ref f6) = true)
    (a7 : PySem.W.nsIn K mainGlobals "turned" = some (some (.ref f7)))
    (l7 : K.lookup f7 = some ⟨oc7, od7, .func (PySem.W.fnOf "turned" "turned" (defArgs s_turned) (defBody s_turned) (defScope s_turned) .none kV7 dc7 pm7 an7 cd7 ct7), sl7⟩)
    (c7 : PySem.W.codeIn K cd7 "turned" = true)
    (k7 : PySem.W.keepIn K (.ref f7) = true)
    (a8 : PySem.W.nsIn K mainGlobals "turned_once" = some (some (.ref f8)))
    (l8 : K.lookup f8 = some ⟨oc8, od8, .func (PySem.W.fnOf "turned_once" "turned_once" (defArgs s_turned_once) (defBody s_turned_once) (defScope s_turned_once) .none kV8 dc8 pm8 an8 cd8 ct8), sl8⟩)
    (c8 : PySem.W.codeIn K cd8 "turned_once" = true)
    (k8 : PySem.W.keepIn K (.ref f8) = true)
    (a9 : PySem.W.nsIn K mainGlobals "weighted_sum" = some (some (.ref f9)))
    (l9 : K.lookup f9 = some ⟨oc9, od9, .func (PySem.W.fnOf "weighted_sum" "weighted_sum" (defArgs s_weighted_sum) (defBody s_weighted_sum) (defScope s_weighted_sum) .none kV9 dc9 pm9 an9 cd9 ct9), sl9⟩)
    (c9 : PySem.W.codeIn K cd9 "weighted_sum" = true)
    (k9 : PySem.W.keepIn K (.ref f9) = true)
    (a10 : PySem.W.nsIn K mainGlobals "outputs_at" = some (some (.ref f10)))
    (l10 : K.lookup f10 = some ⟨oc10, od10, .func (PySem.W.fnOf "outputs_at" "outputs_at" (defArgs s_outputs_at) (defBody s_outputs_at) (defScope s_outputs_at) .none kV10 dc10 pm10 an10 cd10 ct10), sl10⟩)
    (c10 : PySem.W.codeIn K cd10 "outputs_at" = true)
    (k10 : PySem.W.keepIn K (.ref f10) = true)
    (a11 : PySem.W.nsIn K mainGlobals "gate_output" = some (some (.ref f11)))
    (l11 : K.lookup f11 = some ⟨oc11, od11, .func (PySem.W.fnOf "gate_output" "gate_output" (defArgs s_gate_output) (defBody s_gate_output) (defScope s_gate_output) .none kV11 dc11 pm11 an11 cd11 ct11), sl11⟩)
    (c11 : PySem.W.codeIn K cd11 "gate_output" = true)
    (k11 : PySem.W.keepIn K (.ref f11) = true)
    (a12 : PySem.W.nsIn K mainGlobals "polynomials_of" = some (some (.ref f12)))
    (l12 : K.lookup f12 = some ⟨oc12, od12, .func (PySem.W.fnOf "polynomials_of" "polynomials_of" (defArgs s_polynomials_of) (defBody s_polynomials_of) (defScope s_polynomials_of) .none kV12 dc12 pm12 an12 cd12 ct12), sl12⟩)
    (c12 : PySem.W.codeIn K cd12 "polynomials_of" = true)
    (k12 : PySem.W.keepIn K (.ref f12) = true)
    (a13 : PySem.W.nsIn K mainGlobals "compare_circuits" = some (some (.ref f13)))
    (l13 : K.lookup f13 = some ⟨oc13, od13, .func (PySem.W.fnOf "compare_circuits" "compare_circuits" (defArgs s_compare_circuits) (defBody s_compare_circuits) (defScope s_compare_circuits) .none kV13 dc13 pm13 an13 cd13 ct13), sl13⟩)
    (c13 : PySem.W.codeIn K cd13 "compare_circuits" = true)
    (k13 : PySem.W.keepIn K (.ref f13) = true)
    (a14 : PySem.W.nsIn K mainGlobals "_law_cell" = some (some (.ref f14)))
    (l14 : K.lookup f14 = some ⟨oc14, od14, .func (PySem.W.fnOf "_law_cell" "_law_cell" (defArgs s_law_cell) (defBody s_law_cell) (defScope s_law_cell) .none kV14 dc14 pm14 an14 cd14 ct14), sl14⟩)
    (c14 : PySem.W.codeIn K cd14 "_law_cell" = true)
    (k14 : PySem.W.keepIn K (.ref f14) = true)
    (a15 : PySem.W.nsIn K mainGlobals "_law_digits" = some (some (.ref f15)))
    (l15 : K.lookup f15 = some ⟨oc15, od15, .func (PySem.W.fnOf "_law_digits" "_law_digits" (defArgs s_law_digits) (defBody s_law_digits) (defScope s_law_digits) .none kV15 dc15 pm15 an15 cd15 ct15), sl15⟩)
    (c15 : PySem.W.codeIn K cd15 "_law_digits" = true)
    (k15 : PySem.W.keepIn K (.ref f15) = true)
    (a16 : PySem.W.nsIn K mainGlobals "_law_points" = some (some (.ref f16)))
    (l16 : K.lookup f16 = some ⟨oc16, od16, .func (PySem.W.fnOf "_law_points" "_law_points" (defArgs s_law_points) (defBody s_law_points) (defScope s_law_points) .none kV16 dc16 pm16 an16 cd16 ct16), sl16⟩)
    (c16 : PySem.W.codeIn K cd16 "_law_points" = true)
    (k16 : PySem.W.keepIn K (.ref f16) = true)
    (a17 : PySem.W.nsIn K mainGlobals "_law_power_value" = some (some (.ref f17)))
    (l17 : K.lookup f17 = some ⟨oc17, od17, .func (PySem.W.fnOf "_law_power_value" "_law_power_value" (defArgs s_law_power_value) (defBody s_law_power_value) (defScope s_law_power_value) .none kV17 dc17 pm17 an17 cd17 ct17), sl17⟩)
    (c17 : PySem.W.codeIn K cd17 "_law_power_value" = true)
    (k17 : PySem.W.keepIn K (.ref f17) = true)
    (a18 : PySem.W.nsIn K mainGlobals "_law_value" = some (some (.ref f18)))
    (l18 : K.lookup f18 = some ⟨oc18, od18, .func (PySem.W.fnOf "_law_value" "_law_value" (defArgs s_law_value) (defBody s_law_value) (defScope s_law_value) .none kV18 dc18 pm18 an18 cd18 ct18), sl18⟩)
    (c18 : PySem.W.codeIn K cd18 "_law_value" = true)
    (k18 : PySem.W.keepIn K (.ref f18) = true)
    (a19 : PySem.W.nsIn K mainGlobals "_law_is_tuple_point" = some (some (.ref f19)))
    (l19 : K.lookup f19 = some ⟨oc19, od19, .func (PySem.W.fnOf "_law_is_tuple_point" "_law_is_tuple_point" (defArgs s_law_is_tuple_point) (defBody s_law_is_tuple_point) (defScope s_law_is_tuple_point) .none kV19 dc19 pm19 an19 cd19 ct19), sl19⟩)
    (c19 : PySem.W.codeIn K cd19 "_law_is_tuple_point" = true)
    (k19 : PySem.W.keepIn K (.ref f19) = true)
    (a20 : PySem.W.nsIn K mainGlobals "_law_is_polynomial" = some (some (.ref f20)))
    (l20 : K.lookup f20 = some ⟨oc20, od20, .func (PySem.W.fnOf "_law_is_polynomial" "_law_is_polynomial" (defArgs s_law_is_polynomial) (defBody s_law_is_polynomial) (defScope s_law_is_polynomial) .none kV20 dc20 pm20 an20 cd20 ct20), sl20⟩)
    (c20 : PySem.W.codeIn K cd20 "_law_is_polynomial" = true)
    (k20 : PySem.W.keepIn K (.ref f20) = true)
    (a21 : PySem.W.nsIn K mainGlobals "_law_gate_names" = some (some (.ref f21)))
    (l21 : K.lookup f21 = some ⟨oc21, od21, .func (PySem.W.fnOf "_law_gate_names" "_law_gate_names" (defArgs s_law_gate_names) (defBody s_law_gate_names) (defScope s_law_gate_names) .none kV21 dc21 pm21 an21 cd21 ct21), sl21⟩)
    (c21 : PySem.W.codeIn K cd21 "_law_gate_names" = true)
    (k21 : PySem.W.keepIn K (.ref f21) = true)
    (a22 : PySem.W.nsIn K mainGlobals "_law_circuit" = some (some (.ref f22)))
    (l22 : K.lookup f22 = some ⟨oc22, od22, .func (PySem.W.fnOf "_law_circuit" "_law_circuit" (defArgs s_law_circuit) (defBody s_law_circuit) (defScope s_law_circuit) .none kV22 dc22 pm22 an22 cd22 ct22), sl22⟩)
    (c22 : PySem.W.codeIn K cd22 "_law_circuit" = true)
    (k22 : PySem.W.keepIn K (.ref f22) = true)
    (a23 : PySem.W.nsIn K mainGlobals "_law_outputs" = some (some (.ref f23)))
    (l23 : K.lookup f23 = some ⟨oc23, od23, .func (PySem.W.fnOf "_law_outputs" "_law_outputs" (defArgs s_law_outputs) (defBody s_law_outputs) (defScope s_law_outputs) .none kV23 dc23 pm23 an23 cd23 ct23), sl23⟩)
    (c23 : PySem.W.codeIn K cd23 "_law_outputs" = true)
    (k23 : PySem.W.keepIn K (.ref f23) = true)
    (a24 : PySem.W.nsIn K mainGlobals "_law_otherwise" = some (some (.ref f24)))
    (l24 : K.lookup f24 = some ⟨oc24, od24, .func (PySem.W.fnOf "_law_otherwise" "_law_otherwise" (defArgs s_law_otherwise) (defBody s_law_otherwise) (defScope s_law_otherwise) .none kV24 dc24 pm24 an24 cd24 ct24), sl24⟩)
    (c24 : PySem.W.codeIn K cd24 "_law_otherwise" = true)
    (k24 : PySem.W.keepIn K (.ref f24) = true)
    (a25 : PySem.W.nsIn K mainGlobals "law" = some (some (.ref f25)))
    (l25 : K.lookup f25 = some ⟨oc25, od25, .func (PySem.W.fnOf "law" "law" (defArgs s_law) (defBody s_law) (defScope s_law) .none kV25 dc25 pm25 an25 cd25 ct25), sl25⟩)
    (c25 : PySem.W.codeIn K cd25 "law" = true)
    (k25 : PySem.W.keepIn K (.ref f25) = true)
    (a26 : PySem.W.findIn K (.ref C) "__init__" = some (some (.ref f26)))
    (l26 : K.lookup f26 = some ⟨oc26, od26, .func (PySem.W.fnOf "__init__" "Space.__init__" (defArgs s_init) (defBody s_init) (defScope s_init) .none kV26 dc26 pm26 an26 cd26 ct26), sl26⟩)
    (c26 : PySem.W.codeIn K cd26 "Space.__init__" = true)
    (k26 : PySem.W.keepIn K (.ref f26) = true)
    (n26 : PySem.W.isFn K (.ref f26) = true)
    (a27 : PySem.W.findIn K (.ref C) "points" = some (some (.ref f27)))
    (l27 : K.lookup f27 = some ⟨oc27, od27, .func (PySem.W.fnOf "points" "Space.points" (defArgs s_points) (defBody s_points) (defScope s_points) .none kV27 dc27 pm27 an27 cd27 ct27), sl27⟩)
    (c27 : PySem.W.codeIn K cd27 "Space.points" = true)
    (k27 : PySem.W.keepIn K (.ref f27) = true)
    (n27 : PySem.W.isFn K (.ref f27) = true)
    (a28 : PySem.W.findIn K (.ref C) "powers" = some (some (.ref f28)))
    (l28 : K.lookup f28 = some ⟨oc28, od28, .func (PySem.W.fnOf "powers" "Space.powers" (defArgs s_powers) (defBody s_powers) (defScope s_powers) .none kV28 dc28 pm28 an28 cd28 ct28), sl28⟩)
    (c28 : PySem.W.codeIn K cd28 "Space.powers" = true)
    (k28 : PySem.W.keepIn K (.ref f28) = true)
    (n28 : PySem.W.isFn K (.ref f28) = true)
    (a29 : PySem.W.findIn K (.ref G) "__init__" = some (some (.ref f29)))
    (l29 : K.lookup f29 = some ⟨oc29, od29, .func (PySem.W.fnOf "__init__" "Circuit.__init__" (defArgs s_ciinit) (defBody s_ciinit) (defScope s_ciinit) .none kV29 dc29 pm29 an29 cd29 ct29), sl29⟩)
    (c29 : PySem.W.codeIn K cd29 "Circuit.__init__" = true)
    (k29 : PySem.W.keepIn K (.ref f29) = true)
    (n29 : PySem.W.isFn K (.ref f29) = true)
    : ∃ fd : FuncData, (∀ (s : Shared) (v : Value), BindsTo s fd ⟨[v], []⟩ [("script", v)]) ∧ ∀ base : Heap, K.In base → base.Ns mainGlobals mg → FnOk P w K mg base CX0 7 fa fd ["script"] (spK K) := by
  have e := hfa.symm.trans (PySem.W.mg_of X Gh a25)
  cases e
  have FL := fun_mk (st := s_law) l25 c25 k25
  have FI := fun_mk (st := s_init) l26 c26 k26
  have bI := FI.binds (ps := ["self", "prime", "names"]) fun _ _ _ _ _ _ us hl => match us, hl with | [_, _, _], _ => rfl
  have FCi := fun_mk (st := s_ciinit) l29 c29 k29
  have bCi := FCi.binds (ps := ["self", "inputs", "gates", "outputs"]) fun _ _ _ _ _ _ us hl => match us, hl with | [_, _, _, _], _ => rfl
  have T : Tx K mg C f26 _ G f29 _ := { number_raised := tf_mk X Gh a0 l0 c0 k0 (fun _ _ _ _ _ _ us hl => match us, hl with | [_, _, _], _ => rfl), is_name := tf_mk X Gh a1 l1 c1 k1 (fun _ _ _ _ _ _ us hl => match us, hl with | [_], _ => rfl), make_a_space := tf_mk X Gh a2 l2 c2 k2 (fun _ _ _ _ _ _ us hl => match us, hl with | [_, _], _ => rfl), tuples_in_order := tf_mk X Gh a3 l3 c3 k3 (fun _ _ _ _ _ _ us hl => match us, hl with | [_, _], _ => rfl), degree_of := tf_mk X Gh a4 l4 c4 k4 (fun _ _ _ _ _ _ us hl => match us, hl with | [_], _ => rfl), polynomial_of := tf_mk X Gh a5 l5 c5 k5 (fun _ _ _ _ _ _ us hl => match us, hl with | [_, _], _ => rfl), number_rows := tf_mk X Gh a6 l6 c6 k6 (fun _ _ _ _ _ _ us hl => match us, hl with | [_], _ => rfl), turned := tf_mk X Gh a7 l7 c7 k7 (fun _ _ _ _ _ _ us hl => match us, hl with | [_, _, _], _ => rfl), turned_once := tf_mk X Gh a8 l8 c8 k8 (fun _ _ _ _ _ _ us hl => match us, hl with | [_, _, _], _ => rfl), weighted_sum := tf_mk X Gh a9 l9 c9 k9 (fun _ _ _ _ _ _ us hl => match us, hl with | [_, _, _], _ => rfl), outputs_at := tf_mk X Gh a10 l10 c10 k10 (fun _ _ _ _ _ _ us hl => match us, hl with | [_, _], _ => rfl), gate_output := tf_mk X Gh a11 l11 c11 k11 (fun _ _ _ _ _ _ us hl => match us, hl with | [_, _], _ => rfl), polynomials_of := tf_mk X Gh a12 l12 c12 k12 (fun _ _ _ _ _ _ us hl => match us, hl with | [_], _ => rfl), compare_circuits := tf_mk X Gh a13 l13 c13 k13 (fun _ _ _ _ _ _ us hl => match us, hl with | [_, _], _ => rfl), law_cell := tf_mk X Gh a14 l14 c14 k14 (fun _ _ _ _ _ _ us hl => match us, hl with | [_, _], _ => rfl), law_digits := tf_mk X Gh a15 l15 c15 k15 (fun _ _ _ _ _ _ us hl => match us, hl with | [_, _, _], _ => rfl), law_points := tf_mk X Gh a16 l16 c16 k16 (fun _ _ _ _ _ _ us hl => match us, hl with | [_, _], _ => rfl), law_power_value := tf_mk X Gh a17 l17 c17 k17 (fun _ _ _ _ _ _ us hl => match us, hl with | [_, _, _], _ => rfl), law_value := tf_mk X Gh a18 l18 c18 k18 (fun _ _ _ _ _ _ us hl => match us, hl with | [_, _, _], _ => rfl), law_is_tuple_point := tf_mk X Gh a19 l19 c19 k19 (fun _ _ _ _ _ _ us hl => match us, hl with | [_, _, _], _ => rfl), law_is_polynomial := tf_mk X Gh a20 l20 c20 k20 (fun _ _ _ _ _ _ us hl => match us, hl with | [_, _, _], _ => rfl), law_gate_names := tf_mk X Gh a21 l21 c21 k21 (fun _ _ _ _ _ _ us hl => match us, hl with | [_], _ => rfl), law_circuit := tf_mk X Gh a22 l22 c22 k22 (fun _ _ _ _ _ _ us hl => match us, hl with | [_, _, _], _ => rfl), law_outputs := tf_mk X Gh a23 l23 c23 k23 (fun _ _ _ _ _ _ us hl => match us, hl with | [_, _], _ => rfl), law_otherwise := tf_mk X Gh a24 l24 c24 k24 (fun _ _ _ _ _ _ us hl => match us, hl with | [_, _], _ => rfl), pts := tm_mk a27 l27 c27 k27 n27 (fun _ _ _ _ _ _ us hl => match us, hl with | [_], _ => rfl), pws := tm_mk a28 l28 c28 k28 n28 (fun _ _ _ _ _ _ us hl => match us, hl with | [_, _], _ => rfl), range := PySem.W.mg_none_of X Gh z_range, len := PySem.W.mg_none_of X Gh z_len, int := PySem.W.mg_none_of X Gh z_int, all := PySem.W.mg_none_of X Gh z_all, set := PySem.W.mg_none_of X Gh z_set, list := PySem.W.mg_none_of X Gh z_list, isinstance := PySem.W.mg_none_of X Gh z_isinstance, sum := PySem.W.mg_none_of X Gh z_sum, sorted := PySem.W.mg_none_of X Gh z_sorted, zip := PySem.W.mg_none_of X Gh z_zip, tuple := PySem.W.mg_none_of X Gh z_tuple, min := PySem.W.mg_none_of X Gh z_min, str := PySem.W.mg_none_of X Gh z_str, mPRIMES := ⟨fP, PySem.W.mg_of X Gh gPR, fun B => ⟨fP, [.int 2, .int 3, .int 5, .int 7], rfl, .inr ⟨_, _, _, lPR, rfl, rfl, (by rw [sizeLine_eq]; exact Nat.le_of_ble_eq_true rfl), .cons ⟨_, rfl⟩ (.cons ⟨_, rfl⟩ (.cons ⟨_, rfl⟩ (.cons ⟨_, rfl⟩ .nil)))⟩, .cons rfl (.cons rfl (.cons rfl (.cons rfl .nil)))⟩⟩, mLETTERS := ⟨_, PySem.W.mg_of X Gh gLE⟩, mLETTERS_AND_DIGITS := ⟨_, PySem.W.mg_of X Gh gLD⟩, mLONGEST_NAME := ⟨_, PySem.W.mg_of X Gh gLN⟩, mMOST_UNKNOWNS := ⟨_, PySem.W.mg_of X Gh gMU⟩, mMOST_POINTS := ⟨_, PySem.W.mg_of X Gh gMP⟩, cls := ⟨pgC, hdC, poC, saC⟩, na1 := n1C, na2 := n2C, na3 := n3C, na4 := n4C, gS := PySem.W.mg_of X Gh gC, mkC := ⟨mkC, a26, n26, kpC⟩, fInit := FI, binds := bI, gcCi := PySem.W.mg_of X Gh gG, mkCi := ⟨mkG, a29, n29, kpG⟩, fInitCi := FCi, bindsCi := bCi, clsCi := ⟨pgG, hdG, poG, saG⟩, noCi_inputs := n1G, noCi_gates := n2G, noCi_outputs := n3G, insCi := ⟨⟨pgG, hdG, poG, saG⟩, haG, hnG, htG, hmG, meG⟩ }
  refine ⟨PySem.W.fnOf "law" "law" (defArgs s_law) (defBody s_law) (defScope s_law) .none kV25 dc25 pm25 an25 cd25 ct25, fun s v => .of_eq rfl, fun base _ _ => ?_⟩
  have F := ok_law (P := P) (w := w) (base := base) T FL
  exact ⟨fun vs H Q E' h => F.len vs H Q E' (sp_weakG (HL C G) h), fun A outer s H args us vs Q E' r e b v h => F.run A outer s H args us vs Q E' r e b v (sp_weakG (HL C G) h)⟩
end Kt

set_option Elab.async false
set_option linter.all false
set_option maxRecDepth 100000
open PySem PySem.W PyProof.Rows
set_option maxHeartbeats 0 in
theorem PySem.Challenge.cw_standingpowers_k51_whole_circuits_compar_holds : PySem.Challenge.rw_standingpowers_k51_whole_circuits_compar.Holds := by
  w_on; o_law; k_head; (case hw => w_witness2)
  k_fill
  refine L2.walk_ofK (l := PySem.Challenge.rw_standingpowers_k51_whole_circuits_compar) (n := 63) (k := 7) (x := "script") (CX := L2.CX0) (sp := Dn.spK) rfl (by decide) rfl ⟨rfl, by decide, by decide⟩ (fun w h Y => PySem.W.kIn_of Y) ?F ?S (fun _ _ _ _ h => h)
  case S =>
    intro K H a ns hl hO hS
    exact Dn.sp_script hl hS
  case F =>
    intro w mg fa h KX G hmg
    refine' Kt.all_mk KX G hmg Kt.law_true ?gC ?gPR ?lPR ?gLE ?gLD ?gLN ?gMU ?gMP ?z_range ?z_len ?z_int ?z_all ?z_set ?z_list ?z_isinstance ?z_sum ?z_sorted ?z_zip ?z_tuple ?z_min ?z_str ?pgC ?hdC ?poC ?saC ?n1C ?n2C ?n3C ?n4C ?mkC ?kpC ?gG ?pgG ?hdG ?poG ?saG ?n1G ?n2G ?n3G ?mkG ?kpG ?haG ?hnG ?htG ?hmG ?meG ?a0 ?l0 ?c0 ?k0 ?a1 ?l1 ?c1 ?k1 ?a2 ?l2 ?c2 ?k2 ?a3 ?l3 ?c3 ?k3 ?a4 ?l4 ?c4 ?k4 ?a5 ?l5 ?c5 ?k5 ?a6 ?l6 ?c6 ?k6 ?a7 ?l7 ?c7 ?k7 ?a8 ?l8 ?c8 ?k8 ?a9 ?l9 ?c9 ?k9 ?a10 ?l10 ?c10 ?k10 ?a11 ?l11 ?c11 ?k11 ?a12 ?l12 ?c12 ?k12 ?a13 ?l13 ?c13 ?k13 ?a14 ?l14 ?c14 ?k14 ?a15 ?l15 ?c15 ?k15 ?a16 ?l16 ?c16 ?k16 ?a17 ?l17 ?c17 ?k17 ?a18 ?l18 ?c18 ?k18 ?a19 ?l19 ?c19 ?k19 ?a20 ?l20 ?c20 ?k20 ?a21 ?l21 ?c21 ?k21 ?a22 ?l22 ?c22 ?k22 ?a23 ?l23 ?c23 ?k23 ?a24 ?l24 ?c24 ?k24 ?a25 ?l25 ?c25 ?k25 ?a26 ?l26 ?c26 ?k26 ?n26 ?a27 ?l27 ?c27 ?k27 ?n27 ?a28 ?l28 ?c28 ?k28 ?n28 ?a29 ?l29 ?c29 ?k29 ?n29
    (case gC => first | k_is | rfl | with_unfolding_all rfl); (case gPR => first | k_is | rfl | with_unfolding_all rfl); (case lPR => first | k_is | rfl | with_unfolding_all rfl); (case gLE => first | k_is | rfl | with_unfolding_all rfl); (case gLD => first | k_is | rfl | with_unfolding_all rfl); (case gLN => first | k_is | rfl | with_unfolding_all rfl); (case gMU => first | k_is | rfl | with_unfolding_all rfl); (case gMP => first | k_is | rfl | with_unfolding_all rfl); (case z_range => first | k_is | rfl | with_unfolding_all rfl); (case z_len => first | k_is | rfl | with_unfolding_all rfl); (case z_int => first | k_is | rfl | with_unfolding_all rfl); (case z_all => first | k_is | rfl | with_unfolding_all rfl); (case z_set => first | k_is | rfl | with_unfolding_all rfl); (case z_list => first | k_is | rfl | with_unfolding_all rfl); (case z_isinstance => first | k_is | rfl | with_unfolding_all rfl); (case z_sum => first | k_is | rfl | with_unfolding_all rfl); (case z_sorted => first | k_is | rfl | with_unfolding_all rfl); (case z_zip => first | k_is | rfl | with_unfolding_all rfl); (case z_tuple => first | k_is | rfl | with_unfolding_all rfl); (case z_min => first | k_is | rfl | with_unfolding_all rfl); (case z_str => first | k_is | rfl | with_unfolding_all rfl); (case pgC => first | k_is | rfl | with_unfolding_all rfl); (case hdC => first | k_is | rfl | with_unfolding_all rfl); (case poC => first | k_is | rfl | with_unfolding_all rfl); (case saC => first | k_is | rfl | with_unfolding_all rfl); (case n1C => first | k_is | rfl | with_unfolding_all rfl); (case n2C => first | k_is | rfl | with_unfolding_all rfl); (case n3C => first | k_is | rfl | with_unfolding_all rfl); (case n4C => first | k_is | rfl | with_unfolding_all rfl); (case mkC => first | k_is | rfl | with_unfolding_all rfl); (case kpC => first | k_is | rfl | with_unfolding_all rfl); (case gG => first | k_is | rfl | with_unfolding_all rfl); (case pgG => first | k_is | rfl | with_unfolding_all rfl); (case hdG => first | k_is | rfl | with_unfolding_all rfl); (case poG => first | k_is | rfl | with_unfolding_all rfl); (case saG => first | k_is | rfl | with_unfolding_all rfl); (case n1G => first | k_is | rfl | with_unfolding_all rfl); (case n2G => first | k_is | rfl | with_unfolding_all rfl); (case n3G => first | k_is | rfl | with_unfolding_all rfl); (case mkG => first | k_is | rfl | with_unfolding_all rfl); (case kpG => first | k_is | rfl | with_unfolding_all rfl); (case haG => first | k_is | rfl | with_unfolding_all rfl); (case hnG => first | k_is | rfl | with_unfolding_all rfl); (case htG => first | k_is | rfl | with_unfolding_all rfl); (case hmG => first | k_is | rfl | with_unfolding_all rfl); (case meG => first | k_is | rfl | with_unfolding_all rfl); (case a0 => first | k_is | rfl | with_unfolding_all rfl); (case l0 => first | k_is | rfl | with_unfolding_all rfl); (case c0 => first | k_is | rfl | with_unfolding_all rfl); (case k0 => first | k_is | rfl | with_unfolding_all rfl); (case a1 => first | k_is | rfl | with_unfolding_all rfl); (case l1 => first | k_is | rfl | with_unfolding_all rfl); (case c1 => first | k_is | rfl | with_unfolding_all rfl); (case k1 => first | k_is | rfl | with_unfolding_all rfl); (case a2 => first | k_is | rfl | with_unfolding_all rfl); (case l2 => first | k_is | rfl | with_unfolding_all rfl); (case c2 => first | k_is | rfl | with_unfolding_all rfl); (case k2 => first | k_is | rfl | with_unfolding_all rfl); (case a3 => first | k_is | rfl | with_unfolding_all rfl); (case l3 => first | k_is | rfl | with_unfolding_all rfl); (case c3 => first | k_is | rfl | with_unfolding_all rfl); (case k3 => first | k_is | rfl | with_unfolding_all rfl); (case a4 => first | k_is | rfl | with_unfolding_all rfl); (case l4 => first | k_is | rfl | with_unfolding_all rfl); (case c4 => first | k_is | rfl | with_unfolding_all rfl); (case k4 => first | k_is | rfl | with_unfolding_all rfl); (case a5 => first | k_is | rfl | with_unfolding_all rfl); (case l5 => first | k_is | rfl | with_unfolding_all rfl); (case c5 => first | k_is | rfl | with_unfolding_all rfl); (case k5 => first | k_is | rfl | with_unfolding_all rfl); (case a6 => first | k_is | rfl | with_unfolding_all rfl); (case l6 => first | k_is | rfl | with_unfolding_all rfl); (case c6 => first | k_is | rfl | with_unfolding_all rfl); (case k6 => first | k_is | rfl | with_unfolding_all rfl); (case a7 => first | k_is | rfl | with_unfolding_all rfl); (case l7 => first | k_is | rfl | with_unfolding_all rfl); (case c7 => first | k_is | rfl | with_unfolding_all rfl); (case k7 => first | k_is | rfl | with_unfolding_all rfl); (case a8 => first | k_is | rfl | with_unfolding_all rfl); (case l8 => first | k_is | rfl | with_unfolding_all rfl); (case c8 => first | k_is | rfl | with_unfolding_all rfl); (case k8 => first | k_is | rfl | with_unfolding_all rfl); (case a9 => first | k_is | rfl | with_unfolding_all rfl); (case l9 => first | k_is | rfl | with_unfolding_all rfl); (case c9 => first | k_is | rfl | with_unfolding_all rfl); (case k9 => first | k_is | rfl | with_unfolding_all rfl); (case a10 => first | k_is | rfl | with_unfolding_all rfl); (case l10 => first | k_is | rfl | with_unfolding_all rfl); (case c10 => first | k_is | rfl | with_unfolding_all rfl); (case k10 => first | k_is | rfl | with_unfolding_all rfl); (case a11 => first | k_is | rfl | with_unfolding_all rfl); (case l11 => first | k_is | rfl | with_unfolding_all rfl); (case c11 => first | k_is | rfl | with_unfolding_all rfl); (case k11 => first | k_is | rfl | with_unfolding_all rfl); (case a12 => first | k_is | rfl | with_unfolding_all rfl); (case l12 => first | k_is | rfl | with_unfolding_all rfl); (case c12 => first | k_is | rfl | with_unfolding_all rfl); (case k12 => first | k_is | rfl | with_unfolding_all rfl); (case a13 => first | k_is | rfl | with_unfolding_all rfl); (case l13 => first | k_is | rfl | with_unfolding_all rfl); (case c13 => first | k_is | rfl | with_unfolding_all rfl); (case k13 => first | k_is | rfl | with_unfolding_all rfl); (case a14 => first | k_is | rfl | with_unfolding_all rfl); (case l14 => first | k_is | rfl | with_unfolding_all rfl); (case c14 => first | k_is | rfl | with_unfolding_all rfl); (case k14 => first | k_is | rfl | with_unfolding_all rfl); (case a15 => first | k_is | rfl | with_unfolding_all rfl); (case l15 => first | k_is | rfl | with_unfolding_all rfl); (case c15 => first | k_is | rfl | with_unfolding_all rfl); (case k15 => first | k_is | rfl | with_unfolding_all rfl); (case a16 => first | k_is | rfl | with_unfolding_all rfl); (case l16 => first | k_is | rfl | with_unfolding_all rfl); (case c16 => first | k_is | rfl | with_unfolding_all rfl); (case k16 => first | k_is | rfl | with_unfolding_all rfl); (case a17 => first | k_is | rfl | with_unfolding_all rfl); (case l17 => first | k_is | rfl | with_unfolding_all rfl); (case c17 => first | k_is | rfl | with_unfolding_all rfl); (case k17 => first | k_is | rfl | with_unfolding_all rfl); (case a18 => first | k_is | rfl | with_unfolding_all rfl); (case l18 => first | k_is | rfl | with_unfolding_all rfl); (case c18 => first | k_is | rfl | with_unfolding_all rfl); (case k18 => first | k_is | rfl | with_unfolding_all rfl); (case a19 => first | k_is | rfl | with_unfolding_all rfl); (case l19 => first | k_is | rfl | with_unfolding_all rfl); (case c19 => first | k_is | rfl | with_unfolding_all rfl); (case k19 => first | k_is | rfl | with_unfolding_all rfl); (case a20 => first | k_is | rfl | with_unfolding_all rfl); (case l20 => first | k_is | rfl | with_unfolding_all rfl); (case c20 => first | k_is | rfl | with_unfolding_all rfl); (case k20 => first | k_is | rfl | with_unfolding_all rfl); (case a21 => first | k_is | rfl | with_unfolding_all rfl); (case l21 => first | k_is | rfl | with_unfolding_all rfl); (case c21 => first | k_is | rfl | with_unfolding_all rfl); (case k21 => first | k_is | rfl | with_unfolding_all rfl); (case a22 => first | k_is | rfl | with_unfolding_all rfl); (case l22 => first | k_is | rfl | with_unfolding_all rfl); (case c22 => first | k_is | rfl | with_unfolding_all rfl); (case k22 => first | k_is | rfl | with_unfolding_all rfl); (case a23 => first | k_is | rfl | with_unfolding_all rfl); (case l23 => first | k_is | rfl | with_unfolding_all rfl); (case c23 => first | k_is | rfl | with_unfolding_all rfl); (case k23 => first | k_is | rfl | with_unfolding_all rfl); (case a24 => first | k_is | rfl | with_unfolding_all rfl); (case l24 => first | k_is | rfl | with_unfolding_all rfl); (case c24 => first | k_is | rfl | with_unfolding_all rfl); (case k24 => first | k_is | rfl | with_unfolding_all rfl); (case a25 => first | k_is | rfl | with_unfolding_all rfl); (case l25 => first | k_is | rfl | with_unfolding_all rfl); (case c25 => first | k_is | rfl | with_unfolding_all rfl); (case k25 => first | k_is | rfl | with_unfolding_all rfl); (case a26 => first | k_is | rfl | with_unfolding_all rfl); (case l26 => first | k_is | rfl | with_unfolding_all rfl); (case c26 => first | k_is | rfl | with_unfolding_all rfl); (case k26 => first | k_is | rfl | with_unfolding_all rfl); (case n26 => first | k_is | rfl | with_unfolding_all rfl); (case a27 => first | k_is | rfl | with_unfolding_all rfl); (case l27 => first | k_is | rfl | with_unfolding_all rfl); (case c27 => first | k_is | rfl | with_unfolding_all rfl); (case k27 => first | k_is | rfl | with_unfolding_all rfl); (case n27 => first | k_is | rfl | with_unfolding_all rfl); (case a28 => first | k_is | rfl | with_unfolding_all rfl); (case l28 => first | k_is | rfl | with_unfolding_all rfl); (case c28 => first | k_is | rfl | with_unfolding_all rfl); (case k28 => first | k_is | rfl | with_unfolding_all rfl); (case n28 => first | k_is | rfl | with_unfolding_all rfl); (case a29 => first | k_is | rfl | with_unfolding_all rfl); (case l29 => first | k_is | rfl | with_unfolding_all rfl); (case c29 => first | k_is | rfl | with_unfolding_all rfl); (case k29 => first | k_is | rfl | with_unfolding_all rfl); (case n29 => first | k_is | rfl | with_unfolding_all rfl)

